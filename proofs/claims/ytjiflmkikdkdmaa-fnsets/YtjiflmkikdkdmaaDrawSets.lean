/- The draws of sets: spec.l6DrawSet, DrawSetOk, DrawSetHas, DrawSetAdd, DrawSetJoin. -/
import Derived.Test.YtjiflmkikdkdmaaDrawL
import Derived.Test.YtjiflmkikdkdmaaSpecSets
namespace Go.Proofs.Ytjiflmkikdkdmaa
open Go.RowKit

theorem Cur.lt {w : World} {base g ca : Nat} {ao : Option Addr} {xs : List Int} (h : Cur w base g ao ca xs) : g < w.heap.size := by
  obtain ⟨i, hh, hc, _⟩ := h.cells
  exact (Array.getElem?_eq_some_iff.1 hc).1
theorem Cur.below {w w' : World} {base g ca : Nat} {ao : Option Addr} {xs : List Int} (h : Cur w base g ao ca xs) (hB : base ≤ w.heap.size) (hb : Below w.heap.size w w') : Cur w' base g ao ca xs := by
  have hg := h.lt
  refine ⟨h.low, h.len, ?_, ?_⟩
  · obtain ⟨i, hh, hc, h0, h1⟩ := h.cells
    exact ⟨i, hh, (hb.block g hg).trans hc, h0, h1⟩
  · rcases h.code with h' | ⟨b, off, hbb, ha, hx⟩
    · exact .inl h'
    · exact .inr ⟨b, off, hbb, ha, fun k hk => ⟨(hb.cell (p := ⟨b, off + k, none⟩) (by show b < _; omega)).trans (hx k hk).1, (hx k hk).2⟩⟩
theorem grown_new {a b c : World} {row row' : Option Nat} (h : a.grownBy b row) (k : b.grownBy c row') (hr : ∀ j, row' = some j → a.heap.size ≤ j) : a.grownBy c row :=
  ⟨k.os.trans h.os, k.tape.trans h.tape, k.output.trans h.output, Nat.le_trans h.size k.size, fun i hi hne => (k.block i (Nat.lt_of_lt_of_le hi h.size) (fun e => by have := hr i e.symm; omega)).trans (h.block i hi hne)⟩
theorem Cur.grownNew {w w' : World} {base g ca : Nat} {ao : Option Addr} {xs : List Int} {row : Option Nat} (h : Cur w base g ao ca xs) (hg : w.grownBy w' row) (hr : ∀ j, row = some j → g < j) : Cur w' base g ao ca xs := by
  have hlt := h.lt
  have hlow := h.low
  refine ⟨h.low, h.len, ?_, ?_⟩
  · obtain ⟨i, hh, hc, h0, h1⟩ := h.cells
    exact ⟨i, hh, (hg.block g hlt (fun e => by have := hr g e.symm; omega)).trans hc, h0, h1⟩
  · rcases h.code with h' | ⟨b, off, hbb, ha, hx⟩
    · exact .inl h'
    · refine .inr ⟨b, off, hbb, ha, fun k hk => ⟨?_, (hx k hk).2⟩⟩
      rw [World.cell?_of_block (w := w) (hg.block b (by omega) (fun e => by have := hr b e.symm; omega))]
      exact (hx k hk).1
set_option maxHeartbeats 400000 in
set_option maxRecDepth 100000 in
theorem once_any (base g ca : Nat) (ao : Option Addr) (xs : List Int) (n : Int) (w : World) (hB : base ≤ w.heap.size) (hn : 1 ≤ n) (hm : n ≤ 256) (h : Cur w base g ao ca xs) :
    Calls Try.prog 43 #[.pointer (some ⟨g, 0, none⟩), .int .i64 n] w fun e w' => ∃ b : Bool, e = .returned (.bool b) ∧ Cur w' base g ao ca xs ∧ w.grownBy w' (some g) := by
  have HC := hide (below_any base g ca ao xs n w hB hn hm h)
  clear h
  go_enter Try.func43, Try.ntmps43
  go_wp2_with fail
  refine (unhide HC).mono ?_
  rintro e w' ⟨x, rfl, h0, h1, hc, hg⟩
  go_wp2
  go_ret
  exact ⟨_, rfl, hc, hg⟩

theorem kp_to {a b : World} {g : Nat} (h : Kp a b (fun k => k = g)) : a.grownBy b (some g) :=
  ⟨h.os, h.tape, h.output, h.size, fun j hj hx => h.block j hj (fun e => hx (e ▸ rfl))⟩
theorem kp_of {a b : World} {g : Nat} (h : a.grownBy b (some g)) : Kp a b (fun k => k = g) := (kp_grown h).mono fun k e => by simpa using e.symm

theorem wf_small {x : Int} (h0 : -256 ≤ x) (h1 : x ≤ 256) : (Lit.int .i64 x).wf = true := by
  simp only [Lit.wf, IntKind.min, IntKind.max, IntKind.signed, IntKind.bits, Bool.and_eq_true, decide_eq_true_eq, if_true]
  omega
theorem wf_add {xs : List Int} {x : Int} (h : WfL xs) (hx : (Lit.int .i64 x).wf = true) : WfL (addL xs x) := fun y hy => by
  rcases (mem_add xs x y).1 hy with h1 | rfl
  · exact h y h1
  · exact hx
theorem wf_snoc {xs : List Int} {x : Int} (h : WfL xs) (hx : (Lit.int .i64 x).wf = true) : WfL (xs ++ [x]) := fun y hy => by
  rcases List.mem_append.1 hy with h1 | h1
  · exact h y h1
  · simp at h1; subst h1; exact hx
set_option maxHeartbeats 8000000 in
set_option maxRecDepth 100000 in
theorem drawSet (base g ca : Nat) (ao : Option Addr) (zs : List Int) (n : Int) (w : World) (hB : base ≤ w.heap.size) (hn : 1 ≤ n) (hm : n ≤ 256) (h : Cur w base g ao ca zs) :
    Calls Try.prog 29 #[.pointer (some ⟨g, 0, none⟩), .int .i64 n] w fun e w' => ∃ v, ∃ xs : List Int, e = .returned v ∧ xs.length ≤ 9 ∧ Hid (WfL xs) ∧ OI w' w.heap.size v xs ∧ Cur w' base g ao ca zs ∧ w.grownBy w' (some g) := by
  have hlt := h.lt
  have O0 : OI (w.alloc (.cells #[] 3)) w.heap.size (.slice (some ⟨w.heap.size, 0, none⟩) 0 0) [] := by
    have := World.ownsRow_lit (base := w.heap.size) (e := 3) (size := 1) w #[] 0 (Nat.le_refl _) (by unfold maxLen; omega) (by simp)
    simpa [OI] using this
  have b0 : Below w.heap.size w (w.alloc (.cells #[] 3)) := (Below.refl _ _).alloc (Nat.le_refl _) _
  have C0 := h.below hB b0
  have K0 : Kp w (w.alloc (.cells #[] 3)) (fun k => k = g) := Below.kpOf b0 _
  clear h b0
  go_enter Try.func29, Try.ntmps29
  go_wp2
  go_loopw [5, 6] (fun out j wr => ∃ (k : Nat) (xs : List Int), k ≤ 8 ∧ j = .int .i64 k ∧ xs.length ≤ k ∧ Hid (WfL xs) ∧ OI wr w.heap.size out xs ∧ Cur wr base g ao ca zs ∧ Kp w wr (fun k => k = g)) (fun _ j _ => 8 - (intOf j).toNat)
  case atStart => exact ⟨0, [], by omega, rfl, by simp, hide (fun x hx => by simp at hx), O0, C0, K0⟩
  case round =>
    clear O0 C0 K0
    obtain ⟨k, xs, hk, rfl, hxl, WX, ho, C, K⟩ := hrel
    have sk := K.size
    obtain ⟨oa, oc, rfl⟩ := ho.form
    go_wp2_with fail
    refine (below_any base g ca ao zs 8 _ (by omega) (by omega) (by omega) C).mono ?_
    rintro _ w1 ⟨r, rfl, r0, r1, C1, g1⟩
    have k1 := kp_of g1
    have s1 := k1.size
    have l0 := World.ownsRow.lt ho
    have O1 := OI.kp ho k1 (fun j hj e => by have := (l0 j hj).1; omega)
    have K1 := K.trans k1
    clear C K g1 k1 ho l0
    by_cases hlt2 : (k : Int) < r
    · have hd : decide ((k : Int) < r) = true := by simpa using hlt2
      go_wp2_with fail
      refine (below_any base g ca ao zs n _ (by omega) hn hm C1).mono ?_
      rintro _ w2 ⟨x, rfl, x0, x1, C2, g2⟩
      have k2 := kp_of g2
      have s2 := k2.size
      have l1 := World.ownsRow.lt O1
      have O2 := OI.kp O1 k2 (fun j hj e => by have := (l1 j hj).1; omega)
      have K2 := K1.trans k2
      have SA := hide (specSetAdd _ xs x w2 (O2.ri (by omega)) O2.cap (by omega))
      have hal := add_len xs x
      have WY := hide (wf_add (unhide WX) (wf_small (by omega) (by omega) : (Lit.int .i64 x).wf = true))
      clear C1 K1 g2 k2 O1 l1 O2
      generalize addL xs x = ys at *
      go_wp2_with fail
      refine (unhide SA).mono ?_
      rintro _ w3 ⟨u, rfl, o3, b3⟩
      have C3 := C2.below (by omega) b3
      have K3 := K2.trans (Below.kpOf b3 _)
      have O3 := OI.mono o3 (show w.heap.size ≤ w2.heap.size by omega)
      obtain ⟨ua, uc, rfl⟩ := o3.form
      clear SA C2 K2 b3 o3
      go_wp2
      go_roundw
      case rel => exact ⟨k + 1, ys, by omega, by go_num, by omega, WY, O3, C3, K3⟩
      case measure => simp [intOf]; omega
    · have hd : decide ((k : Int) < r) = false := by simpa using hlt2
      go_wp2_with fail
      refine (once_any base g ca ao zs 12 _ (by omega) (by omega) (by omega) C1).mono ?_
      rintro _ w2 ⟨q, rfl, C2, g2⟩
      have k2 := kp_of g2
      have s2 := k2.size
      have l1 := World.ownsRow.lt O1
      have O2 := OI.kp O1 k2 (fun j hj e => by have := (l1 j hj).1; omega)
      have K2 := K1.trans k2
      clear C1 K1 g2 k2 O1 l1
      cases q with
      | false =>
        go_wp2
        go_ret
        exact ⟨_, xs, rfl, by omega, WX, O2, C2, kp_to K2⟩
      | true =>
        obtain ⟨w3, hw3⟩ : ∃ w3, w2.alloc (.cells #[.int .i64 (-1), .int .i64 0, .int .i64 3, .int .i64 9] 3) = w3 := ⟨_, rfl⟩
        have b3 : Below w2.heap.size w2 w3 := hw3 ▸ (Below.refl _ _).alloc (Nat.le_refl _) _
        have h40 : w3.cell? ⟨w2.heap.size, 0, none⟩ = some (.int .i64 (-1)) := by rw [← hw3]; simp
        have h41 : w3.cell? ⟨w2.heap.size, 1, none⟩ = some (.int .i64 0) := by rw [← hw3]; simp
        have h42 : w3.cell? ⟨w2.heap.size, 2, none⟩ = some (.int .i64 3) := by rw [← hw3]; simp
        have h43 : w3.cell? ⟨w2.heap.size, 3, none⟩ = some (.int .i64 9) := by rw [← hw3]; simp
        have hc3 : ∀ k, k < ([-1, 0, 3, 9] : List Int).length → w3.cell? ⟨w2.heap.size, k, none⟩ = some (.int .i64 (([-1, 0, 3, 9] : List Int).getD k 0)) := fun k hk => by
          match k, hk with
          | 0, _ => exact h40
          | 1, _ => exact h41
          | 2, _ => exact h42
          | 3, _ => exact h43
          | k + 4, hk => simp at hk; omega
        have C3 := C2.below (by omega) b3
        have O3 := O2.below b3
        have K3 := K2.trans (Below.kpOf b3 _)
        have s3 := b3.size
        have hgl := C2.lt
        have PK := hide (pickInt_any base g ca w2.heap.size ao zs [-1, 0, 3, 9] w3 (by omega) (by omega) (by simp) (by simp) hc3 C3)
        clear C2 K2 O2 b3 hc3 h40 h41 h42 h43
        go_wp2_with fail
        refine (unhide PK).mono ?_
        rintro _ w4 ⟨kk, hkk, rfl, C4, g4⟩
        have k4 := kp_of g4
        have s4 := k4.size
        have l3 := World.ownsRow.lt O3
        have O4 := OI.kp O3 k4 (fun j hj e => by have := (l3 j hj).1; omega)
        have K4 := K3.trans k4
        have hdd : -256 ≤ ([-1, 0, 3, 9] : List Int).getD kk 0 ∧ ([-1, 0, 3, 9] : List Int).getD kk 0 ≤ 256 := by
          match kk, hkk with
          | 0, _ => decide
          | 1, _ => decide
          | 2, _ => decide
          | 3, _ => decide
          | k + 4, hk => simp at hk; omega
        generalize ([-1, 0, 3, 9] : List Int).getD kk 0 = dd at *
        have WY := hide (wf_snoc (unhide WX) (wf_small hdd.1 hdd.2))
        have b5 : Below w4.heap.size w4 (w4.alloc (.cells #[.int .i64 dd] 3)) := (Below.refl _ _).alloc (Nat.le_refl _) _
        have O5 := O4.below b5
        have C5 := C4.below (by omega) b5
        have K5 := K4.trans (Below.kpOf b5 _)
        have l5 := World.ownsRow.lt O5
        clear hw3 PK C3 K3 O3 C4 O4 K4 g4 k4 l3 b5
        go_wp2_with (first | (at_builtin; refine append_ints rfl _ _ rfl w.heap.size (.slice oa xs.length oc) (.slice (some ⟨w4.heap.size, 0, none⟩) 1 1) xs [dd] rfl rfl O5 ⟨_, _, rfl, .inr ⟨_, rfl, cell_one_new _ _ _⟩⟩ (by simp; omega) (by simp; omega) ?_; intro v' w6 ho6 hg6 _; have C6 := C5.grownNew hg6 (fun j e => by have := (l5 j e).1; omega); have K6 := grown_new (kp_to K5) hg6 (fun j e => (l5 j e).1); clear hg6))
        go_ret
        exact ⟨_, xs ++ [dd], rfl, by simp; omega, WY, ho6, C6, K6⟩

/-- What came in: the code of the draws. -/
structure SCode (w : World) (ao : Option Addr) (xs : List Int) : Prop where
  len : xs.length ≤ 1048576
  code : xs = [] ∨ ∃ b off, ao = some ⟨b, off, none⟩ ∧ ∀ k, k < xs.length → w.cell? ⟨b, off + k, none⟩ = some (.int .u8 (xs.getD k 0))
  fit : ∀ k, k < xs.length → 0 ≤ xs.getD k 0 ∧ xs.getD k 0 ≤ 255
theorem SCode.below {w w' : World} {ao : Option Addr} {xs : List Int} (h : SCode w ao xs) (hb : Below w.heap.size w w') : SCode w' ao xs := by
  refine ⟨h.len, ?_, h.fit⟩
  rcases h.code with h' | ⟨b, off, ha, hx⟩
  · exact .inl h'
  · exact .inr ⟨b, off, ha, fun k hk => (hb.cell (p := ⟨b, off + k, none⟩) (cell_lt (hx k hk))).trans (hx k hk)⟩

set_option maxHeartbeats 4000000 in
set_option maxRecDepth 100000 in
theorem drawSetHas (ao : Option Addr) (ca : Nat) (zs : List Int) (w : World) (h : SCode w ao zs) :
    Calls Try.prog 32 #[.slice ao zs.length ca] w fun e w' => ∃ v, ∃ (xs : List Int) (i : Int), e = .returned (.tuple #[v, .int .i64 i]) ∧ xs.length ≤ 9 ∧ (-1 ≤ i ∧ i ≤ 7) ∧ OI w' w.heap.size v xs ∧ Below w.heap.size w w' := by
  have HN := hide (new_any ao ca zs w h.len h.code h.fit)
  clear h
  generalize zs.length = zn at *
  go_enter Try.func32, Try.ntmps32
  go_wp2_with fail
  refine (unhide HN).mono ?_
  rintro _ w1 ⟨rfl, C1, b1⟩
  have s1 := b1.size
  have l1 := C1.lt
  go_wp2_with fail
  refine (drawSet w.heap.size w.heap.size ca ao zs 7 w1 (by omega) (by omega) (by omega) C1).mono ?_
  rintro _ w2 ⟨v, xs, rfl, hx, wx, o2, C2, g2⟩
  have s2 := g2.size
  obtain ⟨va, vc, rfl⟩ := o2.form
  have B2 := b1.grown g2 s1 (fun k e => by cases e; omega)
  have lo := World.ownsRow.lt o2
  go_wp2_with fail
  refine (below_any w.heap.size w.heap.size ca ao zs 9 w2 (by omega) (by omega) (by omega) C2).mono ?_
  rintro _ w3 ⟨r, rfl, r0, r1, C3, g3⟩
  have O3 := OI.mono (OI.kp o2 (kp_of g3) (fun j hj e => by have := (lo j hj).1; omega)) s1
  have B3 := B2.grown g3 B2.size (fun k e => by cases e; omega)
  clear C1 C2 C3 g2 g3 o2 b1 B2 HN
  go_wp2
  go_ret2
  exact ⟨_, xs, r - 1, rfl, hx, by omega, O3, B3⟩

set_option maxHeartbeats 4000000 in
set_option maxRecDepth 100000 in
theorem drawSetAdd (ao : Option Addr) (ca : Nat) (zs : List Int) (w : World) (h : SCode w ao zs) :
    Calls Try.prog 12 #[.slice ao zs.length ca] w fun e w' => ∃ v, ∃ (xs : List Int) (i : Int), e = .returned (.tuple #[v, .int .i64 i]) ∧ xs.length ≤ 9 ∧ (-1 ≤ i ∧ i ≤ 7) ∧ OI w' w.heap.size v xs ∧ Below w.heap.size w w' := by
  have HN := hide (drawSetHas ao ca zs w h)
  clear h
  generalize zs.length = zn at *
  go_enter Try.func12, Try.ntmps12
  go_wp2_with fail
  refine (unhide HN).mono ?_
  rintro _ w1 ⟨v, xs, i, rfl, hx, hi, o1, b1⟩
  obtain ⟨va, vc, rfl⟩ := o1.form
  clear HN
  go_wp2
  go_ret2
  exact ⟨_, xs, i, rfl, hx, hi, o1, b1⟩

set_option maxHeartbeats 4000000 in
set_option maxRecDepth 100000 in
theorem drawSetJoin (ao : Option Addr) (ca : Nat) (zs : List Int) (w : World) (h : SCode w ao zs) :
    Calls Try.prog 10 #[.slice ao zs.length ca] w fun e w' => ∃ v u, ∃ xs ys : List Int, e = .returned (.tuple #[v, u]) ∧ xs.length ≤ 9 ∧ ys.length ≤ 9 ∧ Hid (WfL xs) ∧ Hid (WfL ys) ∧ OI w' w.heap.size v xs ∧ OI w' w.heap.size u ys ∧ Below w.heap.size w w' := by
  have HN := hide (new_any ao ca zs w h.len h.code h.fit)
  clear h
  generalize zs.length = zn at *
  go_enter Try.func10, Try.ntmps10
  go_wp2_with fail
  refine (unhide HN).mono ?_
  rintro _ w1 ⟨rfl, C1, b1⟩
  have s1 := b1.size
  have l1 := C1.lt
  go_wp2_with fail
  refine (drawSet w.heap.size w.heap.size ca ao zs 7 w1 (by omega) (by omega) (by omega) C1).mono ?_
  rintro _ w2 ⟨v, xs, rfl, hx, wx, o2, C2, g2⟩
  have s2 := g2.size
  obtain ⟨va, vc, rfl⟩ := o2.form
  have B2 := b1.grown g2 s1 (fun k e => by cases e; omega)
  have lo := World.ownsRow.lt o2
  go_wp2_with fail
  refine (drawSet w.heap.size w.heap.size ca ao zs 7 w2 (by omega) (by omega) (by omega) C2).mono ?_
  rintro _ w3 ⟨u, ys, rfl, hy, wy, o3, C3, g3⟩
  obtain ⟨ua, uc, rfl⟩ := o3.form
  have O2 := OI.mono (OI.kp o2 (kp_of g3) (fun j hj e => by have := (lo j hj).1; omega)) s1
  have O3 := OI.mono o3 (show w.heap.size ≤ w2.heap.size by omega)
  have B3 := B2.grown g3 B2.size (fun k e => by cases e; omega)
  clear C1 C2 C3 g2 g3 o2 o3 b1 B2 HN
  go_wp2
  go_ret2
  exact ⟨_, _, xs, ys, rfl, hx, hy, wx, wy, O2, O3, B3⟩

set_option maxHeartbeats 4000000 in
set_option maxRecDepth 100000 in
theorem drawSetOk (ao : Option Addr) (ca : Nat) (zs : List Int) (w : World) (h : SCode w ao zs) :
    Calls Try.prog 14 #[.slice ao zs.length ca] w fun e w' => ∃ v, ∃ (n : Int) (xs : List Int), e = .returned (.tuple #[.int .i64 n, v]) ∧ xs.length ≤ 9 ∧ OI w' w.heap.size v xs ∧ Below w.heap.size w w' := by
  have HN := hide (new_any ao ca zs w h.len h.code h.fit)
  clear h
  generalize zs.length = zn at *
  go_enter Try.func14, Try.ntmps14
  go_wp2_with fail
  refine (unhide HN).mono ?_
  rintro _ w1 ⟨rfl, C1, b1⟩
  have s1 := b1.size
  have l1 := C1.lt
  go_wp2_with fail
  refine (drawSet w.heap.size w.heap.size ca ao zs 7 w1 (by omega) (by omega) (by omega) C1).mono ?_
  rintro _ w2 ⟨v, xs, rfl, hx, wx, o2, C2, g2⟩
  have s2 := g2.size
  obtain ⟨va, vc, rfl⟩ := o2.form
  have B2 := b1.grown g2 s1 (fun k e => by cases e; omega)
  obtain ⟨w3, hw3⟩ : ∃ w3, w2.alloc (.cells #[.int .i64 7, .int .i64 7, .int .i64 4, .int .i64 0, .int .i64 (-1)] 3) = w3 := ⟨_, rfl⟩
  have b3 : Below w2.heap.size w2 w3 := hw3 ▸ (Below.refl _ _).alloc (Nat.le_refl _) _
  have h40 : w3.cell? ⟨w2.heap.size, 0, none⟩ = some (.int .i64 7) := by rw [← hw3]; simp
  have h41 : w3.cell? ⟨w2.heap.size, 1, none⟩ = some (.int .i64 7) := by rw [← hw3]; simp
  have h42 : w3.cell? ⟨w2.heap.size, 2, none⟩ = some (.int .i64 4) := by rw [← hw3]; simp
  have h43 : w3.cell? ⟨w2.heap.size, 3, none⟩ = some (.int .i64 0) := by rw [← hw3]; simp
  have h44 : w3.cell? ⟨w2.heap.size, 4, none⟩ = some (.int .i64 (-1)) := by rw [← hw3]; simp
  have hc3 : ∀ k, k < ([7, 7, 4, 0, -1] : List Int).length → w3.cell? ⟨w2.heap.size, k, none⟩ = some (.int .i64 (([7, 7, 4, 0, -1] : List Int).getD k 0)) := fun k hk => by
    match k, hk with
    | 0, _ => exact h40
    | 1, _ => exact h41
    | 2, _ => exact h42
    | 3, _ => exact h43
    | 4, _ => exact h44
    | k + 5, hk => simp at hk; omega
  have C3 := C2.below (by omega) b3
  have O3 := o2.below b3
  have B3 := B2.trans (b3.mono B2.size)
  have s3 := b3.size
  have PK := hide (pickInt_any w.heap.size w.heap.size ca w2.heap.size ao zs [7, 7, 4, 0, -1] w3 (by omega) (by omega) (by simp) (by simp) hc3 C3)
  have lo := World.ownsRow.lt O3
  clear C1 C2 C3 g2 o2 b1 B2 HN b3 hc3 h40 h41 h42 h43 h44
  go_wp2_with fail
  refine (unhide PK).mono ?_
  rintro _ w4 ⟨kk, hkk, rfl, C4, g4⟩
  have O4 := OI.mono (OI.kp O3 (kp_of g4) (fun j hj e => by have := (lo j hj).1; omega)) s1
  have B4 := B3.grown g4 B3.size (fun k e => by cases e; omega)
  generalize ([7, 7, 4, 0, -1] : List Int).getD kk 0 = dd at *
  clear PK C4 g4 O3 B3 hw3
  go_wp2
  go_ret2
  exact ⟨_, dd, xs, rfl, hx, O4, B4⟩
end Go.Proofs.Ytjiflmkikdkdmaa
