/- Texts that belong together: DrawL, DrawSets, StepAppend. -/
import Derived.Test.YtehdchpolgihlaaGreatDoorPzAJ
import Derived.Test.YtehdchpolgihlaaGreatDoorPzAA
import Derived.Laws.Bits128
import Derived.Test.YtehdchpolgihlaaGreatDoorPzAK
import Derived.Test.YtehdchpolgihlaaGreatDoorPzAO
import Derived.Maps.AppendAt
import Derived.Deep.RegionLaw
/- The cursor of the draws: spec.l1New, l1Byte, l1Below, l1Once, l1Pick, l1PickInt. -/
namespace Go.Proofs.YtehdchpolgihlaaGreatDoor
open Go.RowKit

end Go.Proofs.YtehdchpolgihlaaGreatDoor

/- The draws of sets: spec.l6DrawSet, DrawSetOk, DrawSetHas, DrawSetAdd, DrawSetJoin. -/
namespace Go.Proofs.YtehdchpolgihlaaGreatDoor
open Go.RowKit

theorem kp_to {a b : World} {g : Nat} (h : Kp a b (fun k => k = g)) : a.grownBy b (some g) :=
  ⟨h.os, h.tape, h.output, h.size, fun j hj hx => h.block j hj (fun e => hx (e ▸ rfl))⟩
theorem kp_of {a b : World} {g : Nat} (h : a.grownBy b (some g)) : Kp a b (fun k => k = g) := (kp_grown h).mono fun k e => by simpa using e.symm

theorem wf_small {x : Int} (h0 : -256 ≤ x) (h1 : x ≤ 256) : (Lit.int .i64 x).wf = true := by
  simp only [Lit.wf, IntKind.min, IntKind.max, IntKind.signed, IntKind.bits, Bool.and_eq_true, decide_eq_true_eq, if_true]
  omega
theorem wf_add {xs : List Int} {x : Int} (h : WfL xs) (hx : (Lit.int .i64 x).wf = true) : WfL (addL xs x) := fun y hy => by
  rcases (mem_add xs x y).1 hy with h1 | rfl
  · exact h y h1
  · exact hx
theorem wf_snoc {xs : List Int} {x : Int} (h : WfL xs) (hx : (Lit.int .i64 x).wf = true) : WfL (xs ++ [x]) := fun y hy => by
  rcases List.mem_append.1 hy with h1 | h1
  · exact h y h1
  · simp at h1; subst h1; exact hx
set_option maxHeartbeats 8000000 in
set_option maxRecDepth 100000 in
theorem drawSet (base g ca : Nat) (ao : Option Addr) (zs : List Int) (n : Int) (w : World) (hB : base ≤ w.heap.size) (hn : 1 ≤ n) (hm : n ≤ 256) (h : Cur w base g ao ca zs) :
    Calls Tryz.prog 104 #[.pointer (some ⟨g, 0, none⟩), .int .i64 n] w fun e w' => ∃ v, ∃ xs : List Int, e = .returned v ∧ xs.length ≤ 9 ∧ Hid (WfL xs) ∧ OI w' w.heap.size v xs ∧ Cur w' base g ao ca zs ∧ w.grownBy w' (some g) := by
  have hlt := h.lt
  have O0 : OI (w.alloc (.cells #[] 3)) w.heap.size (.slice (some ⟨w.heap.size, 0, none⟩) 0 0) [] := by
    have := World.ownsRow_lit (base := w.heap.size) (e := 3) (size := 1) w #[] 0 (Nat.le_refl _) (by unfold maxLen; omega) (by simp)
    simpa [OI] using this
  have b0 : Below w.heap.size w (w.alloc (.cells #[] 3)) := (Below.refl _ _).alloc (Nat.le_refl _) _
  have C0 := h.below hB b0
  have K0 : Kp w (w.alloc (.cells #[] 3)) (fun k => k = g) := Below.kpOf b0 _
  clear h b0
  go_enter Tryz.func104, Tryz.ntmps104
  go_wp2
  go_loopw [5, 6] (fun out j wr => ∃ (k : Nat) (xs : List Int), k ≤ 8 ∧ j = .int .i64 k ∧ xs.length ≤ k ∧ Hid (WfL xs) ∧ OI wr w.heap.size out xs ∧ Cur wr base g ao ca zs ∧ Kp w wr (fun k => k = g)) (fun _ j _ => 8 - (intOf j).toNat)
  case atStart => exact ⟨0, [], by omega, rfl, by simp, hide (fun x hx => by simp at hx), O0, C0, K0⟩
  case round =>
    clear O0 C0 K0
    obtain ⟨k, xs, hk, rfl, hxl, WX, ho, C, K⟩ := hrel
    have sk := K.size
    obtain ⟨oa, oc, rfl⟩ := ho.form
    go_wp2_with fail
    refine (below_any base g ca ao zs 8 _ (by omega) (by omega) (by omega) C).mono ?_
    rintro _ w1 ⟨r, rfl, r0, r1, C1, g1⟩
    have k1 := kp_of g1
    have s1 := k1.size
    have l0 := World.ownsRow.lt ho
    have O1 := OI.kp ho k1 (fun j hj e => by have := (l0 j hj).1; omega)
    have K1 := K.trans k1
    clear C K g1 k1 ho l0
    by_cases hlt2 : (k : Int) < r
    · have hd : decide ((k : Int) < r) = true := by simpa using hlt2
      go_wp2_with fail
      refine (below_any base g ca ao zs n _ (by omega) hn hm C1).mono ?_
      rintro _ w2 ⟨x, rfl, x0, x1, C2, g2⟩
      have k2 := kp_of g2
      have s2 := k2.size
      have l1 := World.ownsRow.lt O1
      have O2 := OI.kp O1 k2 (fun j hj e => by have := (l1 j hj).1; omega)
      have K2 := K1.trans k2
      have SA := hide (specSetAdd _ xs x w2 (O2.ri (by omega)) O2.cap (by omega))
      have hal := add_len xs x
      have WY := hide (wf_add (unhide WX) (wf_small (by omega) (by omega) : (Lit.int .i64 x).wf = true))
      clear C1 K1 g2 k2 O1 l1 O2
      generalize addL xs x = ys at *
      go_wp2_with fail
      refine (unhide SA).mono ?_
      rintro _ w3 ⟨u, rfl, o3, b3⟩
      have C3 := C2.below (by omega) b3
      have K3 := K2.trans (Below.kpOf b3 _)
      have O3 := OI.mono o3 (show w.heap.size ≤ w2.heap.size by omega)
      obtain ⟨ua, uc, rfl⟩ := o3.form
      clear SA C2 K2 b3 o3
      go_wp2
      go_roundw
      case rel => exact ⟨k + 1, ys, by omega, by go_num, by omega, WY, O3, C3, K3⟩
      case measure => simp [intOf]; omega
    · have hd : decide ((k : Int) < r) = false := by simpa using hlt2
      go_wp2_with fail
      refine (once_any base g ca ao zs 12 _ (by omega) (by omega) (by omega) C1).mono ?_
      rintro _ w2 ⟨q, rfl, C2, g2⟩
      have k2 := kp_of g2
      have s2 := k2.size
      have l1 := World.ownsRow.lt O1
      have O2 := OI.kp O1 k2 (fun j hj e => by have := (l1 j hj).1; omega)
      have K2 := K1.trans k2
      clear C1 K1 g2 k2 O1 l1
      cases q with
      | false =>
        go_wp2
        go_ret
        exact ⟨_, xs, rfl, by omega, WX, O2, C2, kp_to K2⟩
      | true =>
        obtain ⟨w3, hw3⟩ : ∃ w3, w2.alloc (.cells #[.int .i64 (-1), .int .i64 0, .int .i64 3, .int .i64 9] 3) = w3 := ⟨_, rfl⟩
        have b3 : Below w2.heap.size w2 w3 := hw3 ▸ (Below.refl _ _).alloc (Nat.le_refl _) _
        have h40 : w3.cell? ⟨w2.heap.size, 0, none⟩ = some (.int .i64 (-1)) := by rw [← hw3]; simp
        have h41 : w3.cell? ⟨w2.heap.size, 1, none⟩ = some (.int .i64 0) := by rw [← hw3]; simp
        have h42 : w3.cell? ⟨w2.heap.size, 2, none⟩ = some (.int .i64 3) := by rw [← hw3]; simp
        have h43 : w3.cell? ⟨w2.heap.size, 3, none⟩ = some (.int .i64 9) := by rw [← hw3]; simp
        have hc3 : ∀ k, k < ([-1, 0, 3, 9] : List Int).length → w3.cell? ⟨w2.heap.size, k, none⟩ = some (.int .i64 (([-1, 0, 3, 9] : List Int).getD k 0)) := fun k hk => by
          match k, hk with
          | 0, _ => exact h40
          | 1, _ => exact h41
          | 2, _ => exact h42
          | 3, _ => exact h43
          | k + 4, hk => simp at hk; omega
        have C3 := C2.below (by omega) b3
        have O3 := O2.below b3
        have K3 := K2.trans (Below.kpOf b3 _)
        have s3 := b3.size
        have hgl := C2.lt
        have PK := hide (pickInt_any base g ca w2.heap.size ao zs [-1, 0, 3, 9] w3 (by omega) (by omega) (by simp) (by simp) hc3 C3)
        clear C2 K2 O2 b3 hc3 h40 h41 h42 h43
        go_wp2_with fail
        refine (unhide PK).mono ?_
        rintro _ w4 ⟨kk, hkk, rfl, C4, g4⟩
        have k4 := kp_of g4
        have s4 := k4.size
        have l3 := World.ownsRow.lt O3
        have O4 := OI.kp O3 k4 (fun j hj e => by have := (l3 j hj).1; omega)
        have K4 := K3.trans k4
        have hdd : -256 ≤ ([-1, 0, 3, 9] : List Int).getD kk 0 ∧ ([-1, 0, 3, 9] : List Int).getD kk 0 ≤ 256 := by
          match kk, hkk with
          | 0, _ => decide
          | 1, _ => decide
          | 2, _ => decide
          | 3, _ => decide
          | k + 4, hk => simp at hk; omega
        generalize ([-1, 0, 3, 9] : List Int).getD kk 0 = dd at *
        have WY := hide (wf_snoc (unhide WX) (wf_small hdd.1 hdd.2))
        have b5 : Below w4.heap.size w4 (w4.alloc (.cells #[.int .i64 dd] 3)) := (Below.refl _ _).alloc (Nat.le_refl _) _
        have O5 := O4.below b5
        have C5 := C4.below (by omega) b5
        have K5 := K4.trans (Below.kpOf b5 _)
        have l5 := World.ownsRow.lt O5
        clear hw3 PK C3 K3 O3 C4 O4 K4 g4 k4 l3 b5
        go_wp2_with (first | (at_builtin; refine append_ints rfl _ _ rfl w.heap.size (.slice oa xs.length oc) (.slice (some ⟨w4.heap.size, 0, none⟩) 1 1) xs [dd] rfl rfl O5 ⟨_, _, rfl, .inr ⟨_, rfl, cell_one_new _ _ _⟩⟩ (by simp; omega) (by simp; omega) ?_; intro v' w6 ho6 hg6 _; have C6 := C5.grownNew hg6 (fun j e => by have := (l5 j e).1; omega); have K6 := grown_new (kp_to K5) hg6 (fun j e => (l5 j e).1); clear hg6))
        go_ret
        exact ⟨_, xs ++ [dd], rfl, by simp; omega, WY, ho6, C6, K6⟩

/-- What came in: the code of the draws. -/
structure SCode (w : World) (ao : Option Addr) (xs : List Int) : Prop where
  len : xs.length ≤ 1048576
  code : xs = [] ∨ ∃ b off, ao = some ⟨b, off, none⟩ ∧ ∀ k, k < xs.length → w.cell? ⟨b, off + k, none⟩ = some (.int .u8 (xs.getD k 0))
  fit : ∀ k, k < xs.length → 0 ≤ xs.getD k 0 ∧ xs.getD k 0 ≤ 255
theorem SCode.below {w w' : World} {ao : Option Addr} {xs : List Int} (h : SCode w ao xs) (hb : Below w.heap.size w w') : SCode w' ao xs := by
  refine ⟨h.len, ?_, h.fit⟩
  rcases h.code with h' | ⟨b, off, ha, hx⟩
  · exact .inl h'
  · exact .inr ⟨b, off, ha, fun k hk => (hb.cell (p := ⟨b, off + k, none⟩) (cell_lt (hx k hk))).trans (hx k hk)⟩

end Go.Proofs.YtehdchpolgihlaaGreatDoor

/- append as one step of a region that draws its order; small facts for draws. -/
namespace Go.Proofs.YtehdchpolgihlaaGreatDoor
open Go.RowKit

theorem step_append_ints {ops : Array Oper} {o : Oper} {a : Act} {w : World} {K : Act → World → Prop} {Q : Exit → Act → World → Prop} {E : Prop} (hgd : o.guard = none) (s x : Operand)
    (ho : o.op = .call { callee := .builtin .append, args := #[s, x], argTypes := #[24, 24] }) (base : Nat) (v u : Value) (xs ys : List Int) (hs : a.eval s = v) (hx : a.eval x = u)
    (hown : OI w base v xs) (hp : PI w u ys) (hl : xs.length + ys.length ≤ 16777216) (hbase : base ≤ w.heap.size)
    (h : ∀ v' w', OI w' base v' (xs ++ ys) → w.grownBy w' v.ownBlock → (v'.ownBlock = v.ownBlock ∨ v'.ownBlock = some w.heap.size) → K (a.put o.dst v') w') :
    if Region.wanted o (yielded ops a.tmps) = true then Oper.wp Tryz.prog o a w K Q else E := by
  have hw : Region.wanted o (yielded ops a.tmps) = true := by simp [Region.wanted, hgd]
  rw [if_pos hw]
  obtain ⟨i0, hi, hz0, hz1, hz2⟩ := info_parts Tryz.info3
  obtain ⟨ao, cap, rfl, hp⟩ := hp
  match ao, hx with
  | none, hx =>
    have hy : ys = [] := by rcases hp with h | ⟨ad, e, _⟩; exact h; cases e
    subst hy
    have hrun := run_append_none1 o.type base cap v xs.length (xs.map (Value.int .i64)) w hown
    unfold Oper.wp
    simp only [List.length_nil] at hx
    simp [execOp, ho, resolve, invoke, builtin, hs, hx, hrun, Result.andThen]
    exact h v w (by simpa using hown) (grown_same _ _) (.inl rfl)
  | some ad, hx =>
    have hn : ∀ j u, (ys.map (Value.int .i64))[j]? = some u → w.cell? (ad.add j) = some u := by
      rcases hp with rfl | ⟨ad', e, h⟩
      · intro j u hj; simp at hj
      · cases e; exact h
    obtain ⟨v', w', hrun, r1, r2, _, r4⟩ := run_append_own_at (P := Tryz.prog) w base 24 o.type 3 i0 (.int .i64 0) 1 8 Tryz.underlying24 hi hz0 hz1 hz2 rfl (by decide) v xs.length (xs.map (Value.int .i64)) hown ad ys.length cap (ys.map (Value.int .i64)) (by simp) hn (ints_plain64 ys) (by unfold maxLen; omega) (by omega) hbase
    unfold Oper.wp
    simp [execOp, ho, resolve, invoke, builtin, hs, hx, hrun, Result.andThen]
    refine h v' w' ?_ r2 r4
    unfold OI
    rw [List.map_append, List.length_append]
    exact r1
theorem Loc.grown {w w' : World} {r g : Nat} {cs : Array Value} (h : Loc w r cs) (hg : w.grownBy w' (some g)) (hr : r ≠ g) : Loc w' r cs := h.kp (kp_of hg) hr
theorem Loc.grownNew {w w' : World} {r : Nat} {row : Option Nat} {cs : Array Value} (h : Loc w r cs) (hg : w.grownBy w' row) (hr : row ≠ some r) : Loc w' r cs := h.kp (kp_grown hg) hr
theorem OI.drawn {w w' : World} {base g : Nat} {v : Value} {xs : List Int} (h : OI w base v xs) (hg : w.grownBy w' (some g)) (hlt : g < base) : OI w' base v xs :=
  h.grown hg (fun k hk e => by have := World.ownsRow.lt h k hk; cases e; omega)
end Go.Proofs.YtehdchpolgihlaaGreatDoor
