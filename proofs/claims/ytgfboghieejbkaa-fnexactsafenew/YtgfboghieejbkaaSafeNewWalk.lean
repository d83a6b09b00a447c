/- The walk of laws.FnExactSafeNew. -/
import Derived.Test.YtgfboghieejbkaaSafeSames
import Derived.Test.YtgfboghieejbkaaSafeOpen
namespace Go.Proofs.Ytgfboghieejbkaa
open Go.RowKit
set_option linter.unusedSectionVars false
variable [∀ (a b c d : Int), Decidable (Ok4 a b c d)]
variable [∀ (n f : Int), Decidable (COk n f)]

set_option maxHeartbeats 16000000 in
set_option maxRecDepth 100000 in
theorem fnSafeNew_walk (w : World) :
    Calls Try.prog 3 #[] w fun e w' => e = .returned (.bool true) ∧ Below w.heap.size w w' := by
  have Bw : Below w.heap.size w w := Below.refl _ _
  have NR : Hid (∀ w, RI w (.slice none 0 0) []) := hide fun w => ⟨by simp, none, 0, rfl, .inl rfl⟩
  have EQ := hide fun w => eqSafe_yes 0 0 0 ⟨#[]⟩ (.slice none 0 0) (.slice none 0 0) [] ⟨#[]⟩ w (unhide NR w) (unhide NR w)
  have MK : Hid (∀ w, Calls Try.prog 8 #[sv 0 0 0 ⟨#[]⟩ (.slice none 0 0) ⟨#[]⟩, .int .i64 1] w fun e w' => e = .returned (.int .i64 1) ∧ Below w.heap.size w w') := hide fun w => by
    refine (markSafe_any 0 0 0 ⟨#[]⟩ w.heap.size (.slice none 0 0) ⟨#[]⟩ [] 1 w (by simp) (by omega) (World.ownsRow_nil _ _ _ _)).mono ?_
    rintro e w' ⟨rfl, _, k⟩
    exact ⟨by simp, ⟨k.os, k.tape, k.output, k.size, fun i hi => k.block i hi (by simp [Value.ownBlock])⟩⟩
  have HD : Hid (∀ w, Calls Try.prog 9 #[sv 0 0 0 ⟨#[]⟩ (.slice none 0 0) ⟨#[]⟩, .int .i64 1] w fun e w' => e = .returned (.int .i64 1) ∧ Below w.heap.size w w') := hide fun w => by have := heldSafe_any 0 0 0 ⟨#[]⟩ (.slice none 0 0) ⟨#[]⟩ 0 w (unhide NR w); simpa using this
  go_enter Try.func3, Try.ntmps3
  go_wp2_with fail
  refine (specSafeNew _).mono ?_
  rintro _ w1 ⟨rfl, bb⟩
  have Bw1 := Bw.trans (bb.mono Bw.size)
  have sw1 := bb.size
  clear Bw
  clear bb
  go_upto_region 2 with fail
  obtain ⟨w2, hw2⟩ : ∃ y, w1.alloc (.cells #[.int .i64 0, .int .i64 0, .int .i64 0, .string ⟨#[]⟩, .slice none 0 0, .string ⟨#[]⟩] 26) = y := ⟨_, rfl⟩
  have bb : Below w1.heap.size w1 w2 := hw2 ▸ qalloc _ _
  have V : Loc w2 w1.heap.size #[.int .i64 0, .int .i64 0, .int .i64 0, .string ⟨#[]⟩, .slice none 0 0, .string ⟨#[]⟩] := hw2 ▸ loc_at w1 _ _ rfl
  rw [hw2]
  clear hw2
  have Bw2 := Bw1.trans (bb.mono Bw1.size)
  have sw2 := bb.size
  clear Bw1
  clear bb
  go_wp2_with fail
  refine (implSafeNew _).mono ?_
  rintro _ w3 ⟨rfl, bb⟩
  have Bw3 := Bw2.trans (bb.mono Bw2.size)
  have sw3 := bb.size
  replace V := V.below bb V.lt
  clear Bw2
  clear bb
  go_upto_region 3 with fail
  obtain ⟨w4, hw4⟩ : ∃ y, w3.alloc (.cells #[.int .i64 0, .int .i64 0, .int .i64 0, .string ⟨#[]⟩, .slice none 0 0, .string ⟨#[]⟩] 26) = y := ⟨_, rfl⟩
  have bb : Below w3.heap.size w3 w4 := hw4 ▸ qalloc _ _
  have G : Loc w4 w3.heap.size #[.int .i64 0, .int .i64 0, .int .i64 0, .string ⟨#[]⟩, .slice none 0 0, .string ⟨#[]⟩] := hw4 ▸ loc_at w3 _ _ rfl
  rw [hw4]
  clear hw4
  have Bw4 := Bw3.trans (bb.mono Bw3.size)
  have sw4 := bb.size
  replace V := V.below bb V.lt
  clear Bw3
  clear bb
  have cG0 := G.cell 0 rfl
  have cG1 := G.cell 1 rfl
  have cG2 := G.cell 2 rfl
  have cG3 := G.cell 3 rfl
  have cG4 := G.cell 4 rfl
  have cG5 := G.cell 5 rfl
  have cV0 := V.cell 0 rfl
  have cV1 := V.cell 1 rfl
  have cV2 := V.cell 2 rfl
  have cV3 := V.cell 3 rfl
  have cV4 := V.cell 4 rfl
  have cV5 := V.cell 5 rfl
  go_wp2_with fail
  refine (unhide EQ _).mono ?_
  rintro _ w5 ⟨rfl, bb⟩
  clear cG0 cG1 cG2 cG3 cG4 cG5 cV0 cV1 cV2 cV3 cV4 cV5
  have Bw5 := Bw4.trans (bb.mono Bw4.size)
  have sw5 := bb.size
  replace V := V.below bb V.lt
  replace G := G.below bb G.lt
  clear Bw4
  clear bb
  have cG0 := G.cell 0 rfl
  have cG1 := G.cell 1 rfl
  have cG2 := G.cell 2 rfl
  have cG3 := G.cell 3 rfl
  have cG4 := G.cell 4 rfl
  have cG5 := G.cell 5 rfl
  go_wp2_with fail
  refine (unhide MK _).mono ?_
  rintro _ w6 ⟨rfl, bb⟩
  clear cG0 cG1 cG2 cG3 cG4 cG5
  have Bw6 := Bw5.trans (bb.mono Bw5.size)
  have sw6 := bb.size
  replace V := V.below bb V.lt
  replace G := G.below bb G.lt
  clear Bw5
  clear bb
  have cG0 := G.cell 0 rfl
  have cG1 := G.cell 1 rfl
  have cG2 := G.cell 2 rfl
  have cG3 := G.cell 3 rfl
  have cG4 := G.cell 4 rfl
  have cG5 := G.cell 5 rfl
  go_wp2_with fail
  refine (unhide HD _).mono ?_
  rintro _ w7 ⟨rfl, bb⟩
  clear cG0 cG1 cG2 cG3 cG4 cG5
  have Bw7 := Bw6.trans (bb.mono Bw6.size)
  have sw7 := bb.size
  replace V := V.below bb V.lt
  replace G := G.below bb G.lt
  clear Bw6
  clear bb
  go_wp2_with fail
  refine (implSafeNew _).mono ?_
  rintro _ w8 ⟨rfl, bb⟩
  have Bw8 := Bw7.trans (bb.mono Bw7.size)
  have sw8 := bb.size
  replace V := V.below bb V.lt
  replace G := G.below bb G.lt
  clear Bw7
  clear bb
  go_upto_region 14 with fail
  obtain ⟨w9, hw9⟩ : ∃ y, w8.alloc (.cells #[.int .i64 0, .int .i64 0, .int .i64 0, .string ⟨#[]⟩, .slice none 0 0, .string ⟨#[]⟩] 26) = y := ⟨_, rfl⟩
  have bb : Below w8.heap.size w8 w9 := hw9 ▸ qalloc _ _
  have H : Loc w9 w8.heap.size #[.int .i64 0, .int .i64 0, .int .i64 0, .string ⟨#[]⟩, .slice none 0 0, .string ⟨#[]⟩] := hw9 ▸ loc_at w8 _ _ rfl
  rw [hw9]
  clear hw9
  have Bw9 := Bw8.trans (bb.mono Bw8.size)
  have sw9 := bb.size
  replace V := V.below bb V.lt
  replace G := G.below bb G.lt
  clear Bw8
  clear bb
  have cH0 := H.cell 0 rfl
  have cH1 := H.cell 1 rfl
  have cH2 := H.cell 2 rfl
  have cH3 := H.cell 3 rfl
  have cH4 := H.cell 4 rfl
  have cH5 := H.cell 5 rfl
  have cV0 := V.cell 0 rfl
  have cV1 := V.cell 1 rfl
  have cV2 := V.cell 2 rfl
  have cV3 := V.cell 3 rfl
  have cV4 := V.cell 4 rfl
  have cV5 := V.cell 5 rfl
  go_wp2_with fail
  refine (unhide EQ _).mono ?_
  rintro _ w10 ⟨rfl, bb⟩
  clear cH0 cH1 cH2 cH3 cH4 cH5 cV0 cV1 cV2 cV3 cV4 cV5
  have Bw10 := Bw9.trans (bb.mono Bw9.size)
  have sw10 := bb.size
  replace V := V.below bb V.lt
  replace G := G.below bb G.lt
  replace H := H.below bb H.lt
  clear Bw9
  clear bb
  have cG0 := G.cell 0 rfl
  have cG1 := G.cell 1 rfl
  have cG2 := G.cell 2 rfl
  have cG3 := G.cell 3 rfl
  have cG4 := G.cell 4 rfl
  have cG5 := G.cell 5 rfl
  go_wp2_with fail
  refine (unhide HD _).mono ?_
  rintro _ w11 ⟨rfl, bb⟩
  clear cG0 cG1 cG2 cG3 cG4 cG5
  have Bw11 := Bw10.trans (bb.mono Bw10.size)
  have sw11 := bb.size
  replace V := V.below bb V.lt
  replace G := G.below bb G.lt
  replace H := H.below bb H.lt
  clear Bw10
  clear bb
  go_wp2
  go_ret
  exact ⟨rfl, Bw11⟩
end Go.Proofs.Ytgfboghieejbkaa
