/- The walk of laws.FnExactUnder. -/
import Derived.Test.YtkjmkcipalmonaaTreeKids
import Derived.Test.YtkjmkcipalmonaaTreeSpec
import Derived.Test.YtkjmkcipalmonaaMarkInts
namespace Go.Proofs.Ytkjmkcipalmonaa
open Go.RowKit
set_option linter.unusedSectionVars false
variable [∀ (a b c d : Int), Decidable (Ok4 a b c d)]
variable [∀ (n f : Int), Decidable (COk n f)]

theorem under_len (n f v i : Int) : (underI n f v i).length ≤ 7 := by
  unfold underI
  split
  · rename_i h
    have := picked_len (fun k => decide (i ∈ wayI n f v k)) n.toNat
    have := (hp_iff.1 h).1.1.2
    omega
  · simp
set_option maxHeartbeats 8000000 in
set_option maxRecDepth 100000 in
theorem fnUnder_walk (n f v i : Int) (w : World) :
    Calls Try.prog 11 #[cv n f, .int .i64 v, .int .i64 i] w fun e w' => e = .returned (.bool true) ∧ Below w.heap.size w w' := by
  have TO := hide fun w => toConf_any n f w
  have SP := hide fun w => specUnder n f v i w
  have IM := hide fun w => implUnder n f v i w
  have hyl := under_len n f v i
  generalize underI n f v i = ys at *
  have e2 := imarks_len 1 ys.length
  obtain ⟨w0, hw0⟩ : ∃ y, w.alloc (.cells #[.int .i64 n, .int .i64 f] 39) = y := ⟨_, rfl⟩
  have Bw0 : Below w.heap.size w w0 := hw0 ▸ conf_below _ _
  have LC : Loc w0 w.heap.size #[.int .i64 n, .int .i64 f] := hw0 ▸ loc_at w _ _ rfl
  have Bw0s : w.heap.size + 1 ≤ w0.heap.size := by rw [← hw0]; simp
  have c0 := LC.cell 0 rfl
  have c1 := LC.cell 1 rfl
  go_enter Try.func11, Try.ntmps11
  go_wp2_with fail
  refine (unhide TO _).mono ?_
  rintro _ w1 ⟨rfl, bb⟩
  have Bw1 := Bw0.trans (bb.mono Bw0.size)
  have zw1 := bb.size
  replace LC := LC.below bb LC.lt
  clear bb Bw0
  clear hw0
  clear c0 c1
  go_wp2_with fail
  refine (unhide SP _).mono ?_
  rintro _ w2 ⟨vow, rfl, ow, bb⟩
  have tow : ∀ j, vow.ownBlock = some j → w1.heap.size ≤ j ∧ j < w2.heap.size := World.ownsRow.lt ow
  obtain ⟨aow, cow, rfl⟩ := ow.form
  have Bw2 := Bw1.trans (bb.mono Bw1.size)
  have zw2 := bb.size
  replace LC := LC.below bb LC.lt
  clear bb Bw1
  have c0 := LC.cell 0 rfl
  have c1 := LC.cell 1 rfl
  go_wp2_with fail
  refine (unhide TO _).mono ?_
  rintro _ w3 ⟨rfl, bb⟩
  have Bw3 := Bw2.trans (bb.mono Bw2.size)
  have zw3 := bb.size
  replace LC := LC.below bb LC.lt
  replace ow := ow.below bb
  clear bb Bw2
  clear c0 c1
  go_wp2_with fail
  refine (unhide IM _).mono ?_
  rintro _ w4 ⟨vog, rfl, og, bb⟩
  have tog : ∀ j, vog.ownBlock = some j → w3.heap.size ≤ j ∧ j < w4.heap.size := World.ownsRow.lt og
  obtain ⟨aog, cog, rfl⟩ := og.form
  have Bw4 := Bw3.trans (bb.mono Bw3.size)
  have zw4 := bb.size
  replace LC := LC.below bb LC.lt
  replace ow := ow.below bb
  clear bb Bw3
  go_wp2_with fail
  refine (eqIntS_yes _ _ ys _ (og.ri (by omega)) (ow.ri (by omega))).mono ?_
  rintro _ w5 ⟨rfl, nd, ed⟩
  have bb : Below w4.heap.size w4 w5 := ed ▸ below_drewN' (Below.refl _ _) nd
  clear ed
  have Bw5 := Bw4.trans (bb.mono Bw4.size)
  have zw5 := bb.size
  replace LC := LC.below bb LC.lt
  replace ow := ow.below bb
  replace og := og.below bb
  clear bb Bw4
  go_wp2_with fail
  refine (imark_any _ 1 _ ys w5 (by omega) (by omega) og).mono ?_
  rintro _ w6 ⟨rfl, om, gm⟩
  replace ow := OI.grown ow gm (fun k hk e => by have h1 := tow k hk; have h2 := tog k e; omega)
  have hlc := LC.lt
  replace LC := LC.kp (kp_grown gm) (fun e => by have h2 := tog _ e; have := Bw0s; omega)
  have Bw6 := Bw5.grown gm Bw5.size (fun k e => by have := tog k e; have := Bw0s; omega)
  have zw6 := gm.size
  replace og := om
  clear om gm hlc Bw5
  have hk1 : decide ((1 : Int) + (ys.length : Int) < 0) = false := by simp; omega
  have hk2 : decide (((1 : Nat) : Int) + (ys.length : Int) < 0) = false := by simp; omega
  go_wp2_with fail
  refine (iheld_any _ ys.length 1 _ (by omega) (og.ri (by rw [imarks_len]; omega))).mono ?_
  rintro _ w7 ⟨rfl, ed⟩
  have bb : Below w6.heap.size w6 w7 := ed ▸ Below.refl _ _
  clear ed
  have Bw7 := Bw6.trans (bb.mono Bw6.size)
  have zw7 := bb.size
  replace LC := LC.below bb LC.lt
  replace ow := ow.below bb
  replace og := og.below bb
  clear bb Bw6
  have c0 := LC.cell 0 rfl
  have c1 := LC.cell 1 rfl
  go_wp2_with fail
  refine (unhide TO _).mono ?_
  rintro _ w8 ⟨rfl, bb⟩
  have Bw8 := Bw7.trans (bb.mono Bw7.size)
  have zw8 := bb.size
  replace LC := LC.below bb LC.lt
  replace ow := ow.below bb
  replace og := og.below bb
  clear bb Bw7
  clear c0 c1
  go_wp2_with fail
  refine (unhide IM _).mono ?_
  rintro _ w9 ⟨voh, rfl, oh, bb⟩
  have toh : ∀ j, voh.ownBlock = some j → w8.heap.size ≤ j ∧ j < w9.heap.size := World.ownsRow.lt oh
  obtain ⟨aoh, coh, rfl⟩ := oh.form
  have Bw9 := Bw8.trans (bb.mono Bw8.size)
  have zw9 := bb.size
  replace LC := LC.below bb LC.lt
  replace ow := ow.below bb
  replace og := og.below bb
  clear bb Bw8
  go_wp2_with fail
  refine (eqIntS_yes _ _ ys _ (oh.ri (by omega)) (ow.ri (by omega))).mono ?_
  rintro _ w10 ⟨rfl, nd, ed⟩
  have bb : Below w9.heap.size w9 w10 := ed ▸ below_drewN' (Below.refl _ _) nd
  clear ed
  have Bw10 := Bw9.trans (bb.mono Bw9.size)
  have zw10 := bb.size
  replace LC := LC.below bb LC.lt
  replace ow := ow.below bb
  replace og := og.below bb
  replace oh := oh.below bb
  clear bb Bw9
  go_wp2_with fail
  refine (iheld_any _ ys.length 1 _ (by omega) (og.ri (by rw [imarks_len]; omega))).mono ?_
  rintro _ w11 ⟨rfl, ed⟩
  have bb : Below w10.heap.size w10 w11 := ed ▸ Below.refl _ _
  clear ed
  have Bw11 := Bw10.trans (bb.mono Bw10.size)
  have zw11 := bb.size
  replace LC := LC.below bb LC.lt
  replace ow := ow.below bb
  replace og := og.below bb
  replace oh := oh.below bb
  clear bb Bw10
  go_wp2
  go_ret
  exact ⟨rfl, Bw11⟩
end Go.Proofs.Ytkjmkcipalmonaa
