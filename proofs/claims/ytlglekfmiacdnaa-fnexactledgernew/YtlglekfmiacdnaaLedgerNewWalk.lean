/- The walk of laws.FnExactLedgerNew. -/
import Derived.Test.YtlglekfmiacdnaaLedgerNew
import Derived.Test.YtlglekfmiacdnaaMarkInts
namespace Go.Proofs.Ytlglekfmiacdnaa
open Go.RowKit
set_option linter.unusedSectionVars false
variable [∀ (m a b c d : Int), Decidable (In4 m a b c d)]

set_option maxHeartbeats 8000000 in
set_option maxRecDepth 100000 in
theorem fnLedgerNew_walk (w : World) :
    Calls Try.prog 7 #[] w fun e w' => e = .returned (.bool true) ∧ Below w.heap.size w w' := by
  have SP := hide fun w => specLedgerNew w
  have IM := hide fun w => implLedgerNew w
  obtain ⟨xs, hxs⟩ : ∃ xs, [(100 : Int), 100, 100, 100] = xs := ⟨_, rfl⟩
  obtain ⟨ys, hys⟩ : ∃ ys, [(0 : Int), 0, 0, 0] = ys := ⟨_, rfl⟩
  have hx : xs.length = 4 := by rw [← hxs]; rfl
  have hy : ys.length = 4 := by rw [← hys]; rfl
  rw [hxs, hys] at SP IM
  clear hxs hys
  go_enter Try.func7, Try.ntmps7
  go_wp2_with fail
  refine (unhide SP _).mono ?_
  rintro _ w1 ⟨u1, v1, rfl, o1, B1⟩
  have s1 := B1.size
  obtain ⟨ua, uc, rfl⟩ := o1.has.form
  obtain ⟨va, vc, rfl⟩ := o1.next.form
  rw [hx, hy] at o1 ⊢
  obtain ⟨w2, hw2⟩ : ∃ w2, w1.alloc (.cells #[.slice ua 4 uc, .slice va 4 vc] 26) = w2 := ⟨_, rfl⟩
  have B2 : Below w.heap.size w w2 := hw2 ▸ B1.alloc s1 _
  have W2 : Loc w2 w1.heap.size #[.slice ua 4 uc, .slice va 4 vc] := hw2 ▸ loc_at w1 _ _ rfl
  have O2 : OL w2 w.heap.size w1.heap.size (.slice ua 4 uc) (.slice va 4 vc) xs ys := hw2 ▸ o1.alloc _
  have l2 := W2.lt
  clear o1 B1 SP
  go_wp2_with fail
  clear hw2
  refine (unhide IM _).mono ?_
  rintro _ w3 ⟨u3, v3, rfl, o3, b3⟩
  have s3 := b3.size
  have B3 := B2.trans (b3.mono B2.size)
  have W3 := W2.below b3 W2.lt
  have O3 := O2.below b3
  obtain ⟨ga, gc, rfl⟩ := o3.has.form
  obtain ⟨ha, hc, rfl⟩ := o3.next.form
  rw [hx, hy] at o3 ⊢
  obtain ⟨w4, hw4⟩ : ∃ w4, w3.alloc (.cells #[.slice ga 4 gc, .slice ha 4 hc] 26) = w4 := ⟨_, rfl⟩
  have B4 : Below w.heap.size w w4 := hw4 ▸ B3.alloc B3.size _
  have W4 : Loc w4 w1.heap.size #[.slice ua 4 uc, .slice va 4 vc] := hw4 ▸ W3.alloc _
  have O4 : OL w4 w.heap.size w1.heap.size (.slice ua 4 uc) (.slice va 4 vc) xs ys := hw4 ▸ O3.alloc _
  have G4 : Loc w4 w3.heap.size #[.slice ga 4 gc, .slice ha 4 hc] := hw4 ▸ loc_at w3 _ _ rfl
  have P4 : OL w4 w2.heap.size w3.heap.size (.slice ga 4 gc) (.slice ha 4 hc) xs ys := hw4 ▸ o3.alloc _
  have l4 := G4.lt
  have x0 := W4.cell 0 rfl
  have x1 := W4.cell 1 rfl
  have y0 := G4.cell 0 rfl
  have y1 := G4.cell 1 rfl
  clear o3 b3 B3 W3 O3 B2 W2 O2
  go_wp2_with fail
  clear hw4
  refine (eqLedger_yes _ _ _ _ xs ys _ (P4.ri (by omega) (by omega)) (O4.ri (by omega) (by omega))).mono ?_
  rintro _ w5 ⟨rfl, b5⟩
  have s5 := b5.size
  have B5 := B4.trans (b5.mono B4.size)
  have W5 := W4.below b5 W4.lt
  have O5 := O4.below b5
  have G5 := G4.below b5 G4.lt
  have P5 := P4.below b5
  have y0 := G5.cell 0 rfl
  have y1 := G5.cell 1 rfl
  clear b5 B4 W4 O4 G4 P4 x0 x1
  go_wp2_with fail
  refine (markLedger_any _ _ _ _ xs ys _ (by omega) (by omega) (by omega) P5).mono ?_
  rintro _ w6 ⟨rfl, P6, k6⟩
  have s6 := k6.size
  have B6 := Below.kp B5 k6 B5.size (fun k hk => by omega)
  have W6 := W5.kp k6 (fun h => by omega)
  have O6 := O5.kp k6 (fun k _ _ h => by omega)
  have G6 := G5.kp k6 (fun h => by omega)
  have y0 := G6.cell 0 rfl
  have y1 := G6.cell 1 rfl
  rw [hx, hy] at P6 ⊢
  have HR := hide fun w' (hb : Below w6.heap.size w6 w') => (P6.below hb).ri (by rw [imarks_len]; omega) (by rw [imarks_len]; omega)
  clear B5 W5 O5 G5 P5 k6
  go_wp2_with fail
  refine (heldLedger_any _ _ 4 4 _ (by omega) (unhide HR _ (Below.refl _ _))).mono ?_
  rintro _ w7 ⟨rfl, b7⟩
  have s7 := b7.size
  have B7 := B6.trans (b7.mono B6.size)
  have W7 := W6.below b7 W6.lt
  have O7 := O6.below b7
  have G7 := G6.below b7 G6.lt
  clear B6 W6 O6 G6 y0 y1
  go_wp2_with fail
  refine (unhide IM _).mono ?_
  rintro _ w8 ⟨u8, v8, rfl, o8, b8⟩
  have s8 := b8.size
  have B8 := B7.trans (b8.mono B7.size)
  have W8 := W7.below b8 W7.lt
  have O8 := O7.below b8
  have G8 := G7.below b8 G7.lt
  have c8 := b7.trans (b8.mono s7)
  obtain ⟨ja, jc, rfl⟩ := o8.has.form
  obtain ⟨ka, kc, rfl⟩ := o8.next.form
  rw [hx, hy] at o8 ⊢
  obtain ⟨w9, hw9⟩ : ∃ w9, w8.alloc (.cells #[.slice ja 4 jc, .slice ka 4 kc] 26) = w9 := ⟨_, rfl⟩
  have B9 : Below w.heap.size w w9 := hw9 ▸ B8.alloc B8.size _
  have c9 : Below w6.heap.size w6 w9 := hw9 ▸ c8.alloc c8.size _
  have W9 : Loc w9 w1.heap.size #[.slice ua 4 uc, .slice va 4 vc] := hw9 ▸ W8.alloc _
  have O9 : OL w9 w.heap.size w1.heap.size (.slice ua 4 uc) (.slice va 4 vc) xs ys := hw9 ▸ O8.alloc _
  have G9 : Loc w9 w3.heap.size #[.slice ga 4 gc, .slice ha 4 hc] := hw9 ▸ G8.alloc _
  have J9 : Loc w9 w8.heap.size #[.slice ja 4 jc, .slice ka 4 kc] := hw9 ▸ loc_at w8 _ _ rfl
  have Q9 : OL w9 w7.heap.size w8.heap.size (.slice ja 4 jc) (.slice ka 4 kc) xs ys := hw9 ▸ o8.alloc _
  have x0 := W9.cell 0 rfl
  have x1 := W9.cell 1 rfl
  have y0 := J9.cell 0 rfl
  have y1 := J9.cell 1 rfl
  clear o8 b8 b7 B8 B7 W8 W7 O8 O7 G8 G7 c8 IM
  go_wp2_with fail
  clear hw9
  refine (eqLedger_yes _ _ _ _ xs ys _ (Q9.ri (by omega) (by omega)) (O9.ri (by omega) (by omega))).mono ?_
  rintro _ wa ⟨rfl, ba⟩
  have Ba := B9.trans (ba.mono B9.size)
  have Ga := G9.below ba G9.lt
  have ca := c9.trans (ba.mono c9.size)
  have y0 := Ga.cell 0 rfl
  have y1 := Ga.cell 1 rfl
  clear x0 x1 W9 O9 G9 J9 Q9
  go_wp2_with fail
  refine (heldLedger_any _ _ 4 4 _ (by omega) (unhide HR _ ca)).mono ?_
  rintro _ wb ⟨rfl, bb⟩
  go_wp2
  go_ret
  exact ⟨rfl, Ba.trans (bb.mono Ba.size)⟩
end Go.Proofs.Ytlglekfmiacdnaa
