/- impl.payEach of a ledger that is not right; of every ledger. -/
import Derived.Test.YtlglekfmiacdnaaPayEach
namespace Go.Proofs.Ytlglekfmiacdnaa
open Go.RowKit
set_option linter.unusedSectionVars false
variable [∀ (m a b c d : Int), Decidable (In4 m a b c d)]
variable [∀ (xs ys : List Int), Decidable (LOk xs ys)]
variable [∀ (a b c d : Int), Decidable (Ok4 a b c d)]

set_option maxHeartbeats 16000000 in
set_option maxRecDepth 100000 in
theorem payEach_bad (u v p : Value) (xs ys : List Int) (ts : List T4) (w : World) (hu : RI w u xs ∧ RI w v ys) (hp : RP w p ts) (hl : ¬ LOk xs ys) :
    Calls Try.prog 43 #[lv u v, p] w (EachEnd w (xs, ys, List.replicate ts.length 1)) := by
  obtain ⟨i0, hi, hz0, hz1, hz2⟩ := info_parts Try.info3
  have BO := hide fun w h1 h2 => bookOf_any u v xs ys w h1 h2
  obtain ⟨k0, k1, k2, k3, k4, k5, k6, k7, hb⟩ := bookC_form xs ys
  rw [hb, decide_eq_false hl] at BO
  clear hb
  have RU := hide hu
  obtain ⟨ua, uc, rfl⟩ : ∃ ua uc, u = .slice ua xs.length uc := by obtain ⟨_, ua, uc, h, _⟩ := hu.1; exact ⟨ua, uc, h⟩
  obtain ⟨va, vc, rfl⟩ : ∃ va vc, v = .slice va ys.length vc := by obtain ⟨_, va, vc, h, _⟩ := hu.2; exact ⟨va, vc, h⟩
  obtain ⟨hpl, pa, pc, rfl, hpc⟩ := hp
  obtain ⟨n, hn⟩ : ∃ n, ts.length = n := ⟨_, rfl⟩
  have Hn := hide hn
  rw [hn] at hpl ⊢
  clear hu hpc hn
  obtain ⟨w0, hw0⟩ : ∃ w0, (w.alloc (.cells #[.slice ua xs.length uc, .slice va ys.length vc] 26)).alloc (.cells #[.slice none 0 0, .slice none 0 0] 26) = w0 := ⟨_, rfl⟩
  have B0 : Below w.heap.size w w0 := hw0 ▸ ((Below.refl w.heap.size w).alloc (Nat.le_refl _) _).alloc (by simp) _
  have L0 : Loc w0 w.heap.size #[.slice ua xs.length uc, .slice va ys.length vc] := hw0 ▸ (loc_at w _ _ rfl).alloc _
  have R0 : Loc w0 (w.heap.size + 1) #[.slice none 0 0, .slice none 0 0] := hw0 ▸ loc_at _ _ _ (by simp)
  have s0 : w0.heap.size = w.heap.size + 2 := by rw [← hw0]; simp
  go_enter Try.func43, Try.ntmps43
  go_wp2_with (first
    | (at_make; refine wpList_make_full _ rfl _ _ 24 rfl (w.heap.size + 2) 3 i0 (.int .i64 0) 1 Try.underlying24 hi hz0 hz1 .i64 .i64 n n n rfl rfl rfl rfl (by rw [hz2]; omega) (by unfold maxLen; omega) (by omega) ?_; intro w1 ho1 hg1
       have k1 := kp_grown hg1
       have L1 := L0.kp k1 (by simp)
       have R1 := R0.kp k1 (by simp)
       have B1 := Below.kp B0 k1 B0.size (by simp)
       have x0 := L1.cell 0 rfl
       have x1 := L1.cell 1 rfl
       have s1 := hg1.size
       rw [s0] at ho1
       clear k1 hg1 L0 R0 B0 hw0))
  have ho1 : w1.ownsRow (w.heap.size + 2) 3 1 (.slice (some ⟨w.heap.size + 2, 0, none⟩) n n) n (chalf [] n) := by
    have e : (madeCells (Value.int IntKind.i64 0).cells (n * 1)).toList = chalf [] n := by
      rw [chalf_zero, Nat.mul_one]; exact toList_madeCells_one _ _
    rw [← e]; exact ho1
  have lc := (World.ownsRow.lt ho1 (w.heap.size + 2) rfl).2
  refine (unhide BO _ ((unhide RU).1.below B1 (Nat.le_refl _)) ((unhide RU).2.below B1 (Nat.le_refl _))).mono ?_
  rintro _ w2 ⟨rfl, b2⟩
  have s2 := b2.size
  have B2 := B1.trans (b2.mono B1.size)
  have R2 := R1.below b2 R1.lt
  have ho2 : w2.ownsRow (w.heap.size + 2) 3 1 (.slice (some ⟨w.heap.size + 2, 0, none⟩) n n) n (chalf [] n) := World.ownsRow.kept (row := none) ho1 ⟨b2.os, b2.tape, b2.output, b2.size, fun k hk _ => b2.block k hk⟩ (by simp [Value.ownBlock])
  have L2 := L1.below b2 L1.lt
  clear BO L1 R1 B1 x0 x1 ho1 b2
  have B3 := B2.alloc B2.size (.cells (b8 k0 k1 k2 k3 k4 k5 k6 k7) 73)
  have R3 := R2.alloc (.cells (b8 k0 k1 k2 k3 k4 k5 k6 k7) 73)
  have L3 := L2.alloc (.cells (b8 k0 k1 k2 k3 k4 k5 k6 k7) 73)
  have ho3 := ho2.alloc (.cells (b8 k0 k1 k2 k3 k4 k5 k6 k7) 73)
  generalize hw3 : w2.alloc (.cells (b8 k0 k1 k2 k3 k4 k5 k6 k7) 73) = w3 at *
  clear B2 R2 ho2 L2
  go_wp2
  clear hw3
  go_loopw [24] (fun i wr => ∃ k : Nat, k ≤ n ∧ i = .int .i64 k ∧ wr.ownsRow (w.heap.size + 2) 3 1 (.slice (some ⟨w.heap.size + 2, 0, none⟩) n n) n (chalf (List.replicate k 1) n) ∧ Loc wr w.heap.size #[.slice ua xs.length uc, .slice va ys.length vc] ∧ Loc wr (w.heap.size + 1) #[.slice none 0 0, .slice none 0 0] ∧ Below w.heap.size w wr) (fun i _ => n - (intOf i).toNat)
  case atStart => exact ⟨0, Nat.zero_le _, rfl, ho3, L3, R3, B3⟩
  case round =>
    clear ho3 L3 R3 B3
    obtain ⟨k, hk, rfl, ho, L, R, B⟩ := hrel
    by_cases hlt : k < n
    · obtain ⟨e5, he5⟩ : ∃ e5, wr.cell? ⟨w.heap.size + 2, k, none⟩ = some e5 := ⟨_, (ho.cellAt k (by omega)).trans (List.getElem?_eq_getElem (by rw [chalf_len _ _ (by simp; omega)]; exact hlt))⟩
      have F5 := ho.frozenAt k
      have HS5 : Hid ((wr.setCell ⟨w.heap.size + 2, k, none⟩ (.int .i64 1)).ownsRow (w.heap.size + 2) 3 1 (.slice (some ⟨w.heap.size + 2, 0, none⟩) n n) n (chalf (List.replicate (k + 1) 1) n)) := by
        rw [List.replicate_succ', ← chalf_set _ n k 1 (by simp) hlt]; exact (ho.stored k _).1
      clear ho
      go_wp2
      go_roundw
      case rel => exact ⟨k + 1, by omega, by go_num, unhide HS5, L.other (by simp) _, R.other (by simp) _, Below.set B _ _ (by omega)⟩
      case measure => simp [intOf]; omega
    · have hkn : k = n := by omega
      have ho6 : OI wr (w.heap.size + 2) (.slice (some ⟨w.heap.size + 2, 0, none⟩) n n) (List.replicate n 1) := by
        have e := chalf_all (List.replicate n (1 : Int))
        rw [List.length_replicate] at e
        unfold OI
        rw [List.length_replicate, ← e, ← hkn]; rw [← hkn] at ho; exact ho
      have ho6 := hide ho6
      have lc2 := World.ownsRow.lt (unhide ho6) (w.heap.size + 2) rfl
      subst hkn
      clear ho
      go_wp2_with fail
      refine wp_region_noPanic ?_
      refine wp_region_held_drew (S := (fun w' => w'.cell? ⟨w.heap.size, 0, none⟩ = some (.slice ua xs.length uc) ∧ w'.cell? ⟨w.heap.size, 1, none⟩ = some (.slice va ys.length vc))) (by kernel_rfl) ⟨L.cell 0 rfl, L.cell 1 rfl⟩ (fun hHeld => ?_)
      refine take_at (i := 0) (d := 31) (v := ?_) rfl rfl (by kernel_rfl) (by kernel_rfl) (by kernel_rfl) (fun _ _ _ h => h) (Or.inl ⟨by rfl, ?_⟩) (by assumption) ?_
      rotate_left
      · intro w hSw
        try dsimp only at hSw
        go_simp
        try with_reducible rfl
      simp only [Act.put, List.setIfInBounds_toArray, List.set_cons_zero, List.set_cons_succ]
      refine take_at (i := 1) (d := 32) (v := ?_) rfl rfl (by kernel_rfl) (by kernel_rfl) (by kernel_rfl) (fun _ _ _ h => h) (Or.inl ⟨by rfl, ?_⟩) (by assumption) ?_
      rotate_left
      · intro w hSw
        try dsimp only at hSw
        go_simp
        try with_reducible rfl
      simp only [Act.put, List.setIfInBounds_toArray, List.set_cons_zero, List.set_cons_succ]
      refine take_at (i := 3) (d := 34) (v := ?_) rfl rfl (by kernel_rfl) (by kernel_rfl) (by kernel_rfl) (fun _ _ _ h => h) (Or.inl ⟨by rfl, ?_⟩) (by assumption) ?_
      rotate_left
      · intro w hSw
        try dsimp only at hSw
        go_simp
        try with_reducible rfl
      simp only [Act.put, List.setIfInBounds_toArray, List.set_cons_zero, List.set_cons_succ]
      refine take_at (i := 4) (d := 35) (v := ?_) rfl rfl (by kernel_rfl) (by kernel_rfl) (by kernel_rfl) (fun _ _ _ h => h) (Or.inl ⟨by rfl, ?_⟩) (by assumption) ?_
      rotate_left
      · intro w hSw
        try dsimp only at hSw
        go_simp
        try with_reducible rfl
      simp only [Act.put, List.setIfInBounds_toArray, List.set_cons_zero, List.set_cons_succ]
      refine take_at (i := 7) (d := 38) (v := ?_) rfl rfl (by kernel_rfl) (by kernel_rfl) (by kernel_rfl) (fun _ _ _ h => h) (Or.inl ⟨by rfl, ?_⟩) (by assumption) ?_
      rotate_left
      · intro w hSw
        try dsimp only at hSw
        go_simp
        try with_reducible rfl
      simp only [Act.put, List.setIfInBounds_toArray, List.set_cons_zero, List.set_cons_succ]
      refine ready_at (i := 2) rfl (by kernel_rfl) (fun KK hKK => ?_)
      go_simp
      refine (copyInts_any _ xs _ ((unhide RU).1.below (Below.drew B) (Nat.le_refl _))).mono ?_
      rintro _ w4 ⟨u4, rfl, o4, b4⟩
      have b4 := undrew b4
      have L4 := L.below b4 L.lt
      have R4 := R.below b4 R.lt
      have B4 := B.trans (b4.mono B.size)
      have s4 := b4.size
      have t4 := World.ownsRow.lt o4
      have h4 := (unhide ho6).below b4
      clear hHeld
      refine hKK.out _ _ ⟨L4.cell 0 rfl, L4.cell 1 rfl⟩ (fun hHeld => ?_)
      clear hKK KK
      refine ready_at (i := 5) rfl (by kernel_rfl) (fun KK hKK => ?_)
      go_simp
      refine (copyInts_any _ ys _ ((unhide RU).2.below B4 (Nat.le_refl _))).mono ?_
      rintro _ w5 ⟨u5, rfl, o5, b5⟩
      have L5 := L4.below b5 L4.lt
      have R5 := R4.below b5 R4.lt
      have B5 := B4.trans (b5.mono B4.size)
      have s5 := b5.size
      have t5 := World.ownsRow.lt o5
      have o4' := o4.below b5
      have h5 := h4.below b5
      clear hHeld
      refine hKK.out _ _ ⟨L5.cell 0 rfl, L5.cell 1 rfl⟩ (fun hHeld => ?_)
      clear hKK KK
      obtain ⟨la, lc1, rfl⟩ := o4.form
      obtain ⟨ma, mc, rfl⟩ := o5.form
      refine take_at (i := 6) (d := 37) (v := ?_) rfl rfl (by kernel_rfl) (by kernel_rfl) (by kernel_rfl) (fun _ _ _ h => h) (Or.inl ⟨by rfl, ?_⟩) (by assumption) ?_
      rotate_left
      · intro w hSw
        try dsimp only at hSw
        go_simp
        try with_reducible rfl
      simp only [Act.put, List.setIfInBounds_toArray, List.set_cons_zero, List.set_cons_succ]
      have q0 := R5.cell 0 rfl
      have q1 := R5.cell 1 rfl
      have FR := R5.frozen
      refine ready_at (i := 8) rfl (by kernel_rfl) (fun KK hKK => ?_)
      go_simp
      have L6 := (L5.other (p := ⟨w.heap.size + 1, 0, none⟩) (by simp) (.slice la xs.length lc1)).other (p := ⟨w.heap.size + 1, 1, none⟩) (by simp) (.slice ma ys.length mc)
      clear hHeld
      refine hKK.out _ _ ⟨L6.cell 0 rfl, L6.cell 1 rfl⟩ (fun hHeld => ?_)
      clear hKK KK
      refine take_at (i := 9) (d := 5) (v := ?_) rfl rfl (by kernel_rfl) (by kernel_rfl) (by kernel_rfl) (fun _ _ _ h => h) (Or.inl ⟨by rfl, ?_⟩) (by assumption) ?_
      rotate_left
      · intro w hSw
        try dsimp only at hSw
        go_simp
        try with_reducible rfl
      simp only [Act.put, List.setIfInBounds_toArray, List.set_cons_zero, List.set_cons_succ]
      clear hHeld L6 L5 L4 L
      refine wpAnyH_done (by kernel_rfl) ?_ _
      refine NoPanic.normal ?_
      go_wp2
      refine bodyPost_ret (v := .tuple #[lv (.slice la xs.length lc1) (.slice ma ys.length mc), .slice (some ⟨w.heap.size + 2, 0, none⟩) k k]) (by simp [results, Try.results43, go_sem, q0, q1]) rfl ?_
      have K7 : Kp w5 ((w5.setCell ⟨w.heap.size + 1, 0, none⟩ (.slice la xs.length lc1)).setCell ⟨w.heap.size + 1, 1, none⟩ (.slice ma ys.length mc)) (fun k => k = w.heap.size + 1) := (set_kp w5 _ 0 _).trans (set_kp _ _ 1 _)
      have e0 : wr.drew.heap.size = wr.heap.size := rfl
      rw [e0] at t4
      refine ⟨_, _, _, wr.heap.size, rfl, ?_, ?_, by omega, ⟨?_, ?_, ?_, ?_, ?_⟩, ?_⟩
      · exact (h5.kp K7 (fun j hj => by simp [Value.ownBlock] at hj; omega)).mono (by omega)
      · intro j hj; simp [Value.ownBlock] at hj; omega
      · exact (o4'.kp K7 (fun j hj => by have := t4 j hj; omega)).mono (Nat.le_refl _)
      · exact (o5.kp K7 (fun j hj => by have := t5 j hj; omega)).mono (by omega)
      · intro j hj; have := t4 j hj; simp; omega
      · intro j hj; have := t5 j hj; simp; omega
      · intro j hj h'; have := t4 j hj; have := t5 j h'; omega
      · exact Below.set (Below.set B5 _ _ (by omega)) _ _ (by omega)

theorem payEach_any (u v p : Value) (xs ys : List Int) (ts : List T4) (w : World) (hu : RI w u xs ∧ RI w v ys) (hp : RP w p ts) :
    Calls Try.prog 43 #[lv u v, p] w (EachEnd w (eachAns xs ys ts)) := by
  unfold eachAns
  by_cases h : LOk xs ys
  · rw [if_pos h]; exact payEach_ok u v p xs ys ts w hu hp h
  · rw [if_neg h]; exact payEach_bad u v p xs ys ts w hu hp h
end Go.Proofs.Ytlglekfmiacdnaa
