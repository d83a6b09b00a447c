/- The walk of laws.FnExactQcFirst. -/
import Derived.Test.YtdgadkinkalcpaaQcCopy
import Derived.Test.YtdgadkinkalcpaaQcOpen
import Derived.Test.YtdgadkinkalcpaaHeldBy
import Derived.Deep.RegionHeld3
import Derived.Deep.DeepCutAuto
namespace Go.Proofs.Ytdgadkinkalcpaa
open Go.RowKit
set_option linter.unusedSectionVars false
variable [∀ (a b c d : Int), Decidable (Ok4 a b c d)]
variable [∀ (n f : Int), Decidable (COk n f)]

set_option maxHeartbeats 8000000 in
set_option maxRecDepth 100000 in
theorem fnQcFirst_walk (w : World) :
    Calls Try.prog 6 #[] w fun e w' => e = .returned (.bool true) ∧ Below w.heap.size w w' := by
  obtain ⟨z, hz⟩ : ∃ z : Int, z = 0 := ⟨_, rfl⟩
  obtain ⟨e0, he⟩ : ∃ e : ByteArray, e = ⟨#[]⟩ := ⟨_, rfl⟩
  obtain ⟨no, hn⟩ : ∃ x : Option Addr, x = none := ⟨_, rfl⟩
  obtain ⟨zl, hl⟩ : ∃ x : Nat, x = 0 := ⟨_, rfl⟩
  have NR : Hid (∀ w, RI w (.slice no zl 0) []) := hide fun w => by rw [hn, hl]; exact ⟨by simp, none, 0, rfl, .inl rfl⟩
  have SP : Hid (∀ w, Calls Try.prog 16 #[] w fun e w' => e = .returned (qv z e0 (.slice no zl 0)) ∧ Below w.heap.size w w') := hide fun w => by rw [hz, he, hn, hl]; exact specQcFirst w
  have IM : Hid (∀ w, Calls Try.prog 17 #[] w fun e w' => e = .returned (qv z e0 (.slice no zl 0)) ∧ Below w.heap.size w w') := hide fun w => by rw [hz, he, hn, hl]; exact implQcFirst w
  have MG : Hid (∀ w, Calls Try.prog 19 #[qv z e0 (.slice no zl 0), .int .i64 1] w fun e w' => e = .returned (.int .i64 1) ∧ Below w.heap.size w w') := hide fun w => by rw [hz, he, hn, hl]; exact (markQc_any 0 ⟨#[]⟩ 0 (.slice none 0 0) [] 1 w (by simp) (by omega) (World.ownsRow_nil _ _ _ _)).mono fun e w' ⟨h, _, k⟩ => ⟨by simpa using h, ⟨k.os, k.tape, k.output, k.size, fun j hj => k.block j hj (by simp [Value.ownBlock])⟩⟩
  have HD : Hid (∀ w, Calls Try.prog 20 #[qv z e0 (.slice no zl 0), .int .i64 1] w fun e w' => e = .returned (.int .i64 1) ∧ Below w.heap.size w w') := hide fun w => by rw [hz, he, hn, hl]; exact (heldQc_any 0 ⟨#[]⟩ (.slice none 0 0) 0 w ⟨by simp [imarks], none, 0, rfl, .inl rfl⟩).mono fun e w' ⟨h, k⟩ => ⟨by simpa using h, k⟩
  clear hz he hn hl
  have Bw := Below.refl w.heap.size w
  go_enter Try.func6, Try.ntmps6
  go_wp2_with fail
  refine (unhide SP _).mono ?_
  rintro _ w1 ⟨rfl, bb⟩
  have Bw1 := Bw.trans (bb.mono Bw.size)
  have sw1 := bb.size
  clear Bw
  clear bb
  obtain ⟨w2, hw2⟩ : ∃ x, w1.alloc (.cells #[.int .i64 z, .string e0, .slice no zl 0] 31) = x := ⟨_, rfl⟩
  have bb : Below w1.heap.size w1 w2 := hw2 ▸ qalloc _ _
  have V : Loc w2 w1.heap.size #[.int .i64 z, .string e0, .slice no zl 0] := hw2 ▸ loc_at w1 _ _ rfl
  have zw2 : w2.heap.size = w1.heap.size + 1 := by rw [← hw2]; simp
  have Bw2 := Bw1.trans (bb.mono Bw1.size)
  have sw2 := bb.size
  clear Bw1
  clear bb
  go_wp2_with fail
  clear hw2
  refine (unhide IM _).mono ?_
  rintro _ w3 ⟨rfl, bb⟩
  have Bw3 := Bw2.trans (bb.mono Bw2.size)
  have sw3 := bb.size
  replace V := V.below bb V.lt
  clear Bw2
  clear bb
  obtain ⟨w4, hw4⟩ : ∃ x, w3.alloc (.cells #[.int .i64 z, .string e0, .slice no zl 0] 31) = x := ⟨_, rfl⟩
  have bb : Below w3.heap.size w3 w4 := hw4 ▸ qalloc _ _
  have G : Loc w4 w3.heap.size #[.int .i64 z, .string e0, .slice no zl 0] := hw4 ▸ loc_at w3 _ _ rfl
  have zw4 : w4.heap.size = w3.heap.size + 1 := by rw [← hw4]; simp
  have Bw4 := Bw3.trans (bb.mono Bw3.size)
  have sw4 := bb.size
  replace V := V.below bb V.lt
  clear Bw3
  clear bb
  have cG0 := G.cell 0 rfl
  have cG1 := G.cell 1 rfl
  have cG2 := G.cell 2 rfl
  have cV0 := V.cell 0 rfl
  have cV1 := V.cell 1 rfl
  have cV2 := V.cell 2 rfl
  go_wp2_with fail
  clear hw4
  refine (eqQc_yes z e0 _ _ [] _ (unhide NR _) (unhide NR _)).mono ?_
  rintro _ w5 ⟨rfl, bb⟩
  clear cG0 cG1 cG2 cV0 cV1 cV2
  have Bw5 := Bw4.trans (bb.mono Bw4.size)
  have sw5 := bb.size
  replace V := V.below bb V.lt
  replace G := G.below bb G.lt
  clear Bw4
  clear bb
  have cG0 := G.cell 0 rfl
  have cG1 := G.cell 1 rfl
  have cG2 := G.cell 2 rfl
  go_wp2_with fail
  refine (unhide MG _).mono ?_
  rintro _ w6 ⟨rfl, bb⟩
  clear cG0 cG1 cG2
  have Bw6 := Bw5.trans (bb.mono Bw5.size)
  have sw6 := bb.size
  replace V := V.below bb V.lt
  replace G := G.below bb G.lt
  clear Bw5
  clear bb
  have cG0 := G.cell 0 rfl
  have cG1 := G.cell 1 rfl
  have cG2 := G.cell 2 rfl
  go_wp2_with fail
  refine (unhide HD _).mono ?_
  rintro _ w7 ⟨rfl, bb⟩
  clear cG0 cG1 cG2
  have Bw7 := Bw6.trans (bb.mono Bw6.size)
  have sw7 := bb.size
  replace V := V.below bb V.lt
  replace G := G.below bb G.lt
  clear Bw6
  clear bb
  go_wp2_with fail
  refine (unhide IM _).mono ?_
  rintro _ w8 ⟨rfl, bb⟩
  have Bw8 := Bw7.trans (bb.mono Bw7.size)
  have sw8 := bb.size
  replace V := V.below bb V.lt
  replace G := G.below bb G.lt
  clear Bw7
  clear bb
  obtain ⟨w9, hw9⟩ : ∃ x, w8.alloc (.cells #[.int .i64 z, .string e0, .slice no zl 0] 31) = x := ⟨_, rfl⟩
  have bb : Below w8.heap.size w8 w9 := hw9 ▸ qalloc _ _
  have H : Loc w9 w8.heap.size #[.int .i64 z, .string e0, .slice no zl 0] := hw9 ▸ loc_at w8 _ _ rfl
  have zw9 : w9.heap.size = w8.heap.size + 1 := by rw [← hw9]; simp
  have Bw9 := Bw8.trans (bb.mono Bw8.size)
  have sw9 := bb.size
  replace V := V.below bb V.lt
  replace G := G.below bb G.lt
  clear Bw8
  clear bb
  have cH0 := H.cell 0 rfl
  have cH1 := H.cell 1 rfl
  have cH2 := H.cell 2 rfl
  have cV0 := V.cell 0 rfl
  have cV1 := V.cell 1 rfl
  have cV2 := V.cell 2 rfl
  go_wp2_with fail
  clear hw9
  refine (eqQc_yes z e0 _ _ [] _ (unhide NR _) (unhide NR _)).mono ?_
  rintro _ w10 ⟨rfl, bb⟩
  clear cH0 cH1 cH2 cV0 cV1 cV2
  have Bw10 := Bw9.trans (bb.mono Bw9.size)
  have sw10 := bb.size
  replace V := V.below bb V.lt
  replace G := G.below bb G.lt
  replace H := H.below bb H.lt
  clear Bw9
  clear bb
  have cG0 := G.cell 0 rfl
  have cG1 := G.cell 1 rfl
  have cG2 := G.cell 2 rfl
  go_wp2_with fail
  refine (unhide HD _).mono ?_
  rintro _ w11 ⟨rfl, bb⟩
  clear cG0 cG1 cG2
  have Bw11 := Bw10.trans (bb.mono Bw10.size)
  have sw11 := bb.size
  replace V := V.below bb V.lt
  replace G := G.below bb G.lt
  replace H := H.below bb H.lt
  clear Bw10
  clear bb
  go_wp2
  go_ret
  exact ⟨rfl, Bw11⟩
end Go.Proofs.Ytdgadkinkalcpaa
