/- The walk of laws.FnExactTotal. -/
import Derived.Test.YtlglekfmiacdnaaTotal
import Derived.Deep.RegionHeld3
namespace Go.Proofs.Ytlglekfmiacdnaa
open Go.RowKit
set_option linter.unusedSectionVars false

/-- A list of numbers that came in. -/
def AI (w : World) (ao : Option Addr) (xs : List Int) : Prop := xs = [] ∨ ∃ b off, ao = some ⟨b, off, none⟩ ∧ ∀ k, k < xs.length → w.cell? ⟨b, off + k, none⟩ = some (.int .i64 (xs.getD k 0))
theorem AI.ri {w : World} {ao : Option Addr} {xs : List Int} (h : AI w ao xs) (ca : Nat) (hl : xs.length ≤ 4194304) : RI w (.slice ao xs.length ca) xs := ⟨hl, ao, ca, rfl, h⟩

set_option maxHeartbeats 800000 in
set_option maxRecDepth 100000 in
theorem fnTotal_long (ao bo : Option Addr) (n ca m cb : Nat) (w : World) (h : 1048576 < n + m) (hn : n ≤ 9223372036854775807) (hm : m ≤ 9223372036854775807) :
    Calls Try.prog 10 #[lv (.slice ao n ca) (.slice bo m cb)] w fun e w' => e = .returned (.bool true) ∧ Below w.heap.size w w' := by
  have SZ : Hid (∀ w, Calls Try.prog 26 #[lv (.slice ao n ca) (.slice bo m cb), .int .i64 1048576] w fun e w' => e = .returned (.int .i64 (-1)) ∧ Below w.heap.size w w') := by
    refine hide fun w => ?_
    by_cases h0 : n ≤ 1048576
    · exact szLedger_no2 ao bo n ca m cb w h0 h hm
    · exact szLedger_no1 ao bo n ca m cb w (by omega) hn
  go_enter Try.func10, Try.ntmps10
  go_wp2_with fail
  refine (unhide SZ _).mono ?_
  rintro e w1 ⟨rfl, b1⟩
  go_wp2
  go_ret
  exact ⟨rfl, ((Below.refl _ _).alloc (Nat.le_refl _) _).trans (b1.mono (by simp))⟩

set_option maxHeartbeats 8000000 in
set_option maxRecDepth 100000 in
theorem fnTotal_short (ao bo : Option Addr) (ca cb : Nat) (xs ys : List Int) (w : World) (h : xs.length + ys.length ≤ 1048576) (ha : AI w ao xs) (hb : AI w bo ys) :
    Calls Try.prog 10 #[lv (.slice ao xs.length ca) (.slice bo ys.length cb)] w fun e w' => e = .returned (.bool true) ∧ Below w.heap.size w w' := by
  have hd : decide ((1048576 : Int) - (xs.length : Int) - (ys.length : Int) < 0) = false := by simp; omega
  have SZ := hide fun w => szLedger_yes ao bo xs.length ca ys.length cb w h
  have RA : Hid (∀ w', Below w.heap.size w w' → RI w' (.slice ao xs.length ca) xs ∧ RI w' (.slice bo ys.length cb) ys) := hide fun w' hb' => ⟨(ha.ri ca (by omega)).below hb' (Nat.le_refl _), (hb.ri cb (by omega)).below hb' (Nat.le_refl _)⟩
  have hx : xs.length ≤ 4194304 := by omega
  have hy : ys.length ≤ 4194304 := by omega
  clear ha hb h
  have L0 := hide (loc2_new w (.slice ao xs.length ca) (.slice bo ys.length cb) 43)
  have TO := hide fun w h => toLedger_any (.slice ao xs.length ca) (.slice bo ys.length cb) xs ys w h
  go_enter Try.func10, Try.ntmps10
  go_wp2_with fail
  refine (unhide SZ _).mono ?_
  rintro e w1 ⟨rfl, b1⟩
  have B1 : Below w.heap.size w w1 := ((Below.refl _ _).alloc (Nat.le_refl _) _).trans (b1.mono (by simp))
  have L1 := (unhide L0).below b1 (by simp)
  have s1 := b1.size
  simp at s1
  obtain ⟨p0, p1, _, _⟩ := L1.cells
  clear SZ L0 b1
  go_wp2_with fail
  refine (unhide TO _ (unhide RA _ B1)).mono ?_
  rintro e w2 ⟨u, v, rfl, o2, b2⟩
  have B2 := B1.trans (b2.mono B1.size)
  have L2 := L1.below b2 (by omega)
  have s2 := b2.size
  have SP := hide fun w h => specTotal u v xs w h
  have IM := hide fun a b w h => implTotal a b xs w h
  generalize tot xs = t at *
  have R2 := hide (o2.ri hx hy)
  clear o2 b2 p0 p1 L1
  go_wp2_with fail
  refine (unhide SP _ (unhide R2).1).mono ?_
  rintro e w3 ⟨rfl, b3⟩
  have B3 := B2.trans (b3.mono B2.size)
  have L3 := L2.below b3 (by omega)
  have s3 := b3.size
  obtain ⟨p0, p1, _, _⟩ := L3.cells
  clear SP R2 b3 L2 B2 B1
  go_wp2_with fail
  refine (unhide TO _ (unhide RA _ B3)).mono ?_
  rintro e w4 ⟨u4, v4, rfl, o4, b4⟩
  have B4 := B3.trans (b4.mono B3.size)
  have L4 := L3.below b4 (by omega)
  have s4 := b4.size
  have R4 := hide (o4.ri hx hy)
  obtain ⟨ua, uc, rfl⟩ := o4.has.form
  obtain ⟨va, vc, rfl⟩ := o4.next.form
  have B5 : Below w.heap.size w (w4.alloc (.cells #[.slice ua xs.length uc, .slice va ys.length vc] 26)) := B4.alloc B4.size _
  have L5 := hide (L4.alloc (.cells #[.slice ua xs.length uc, .slice va ys.length vc] 26))
  have X5 := hide (loc2_new w4 (.slice ua xs.length uc) (.slice va ys.length vc) 26)
  have O5 := hide (o4.alloc (.cells #[.slice ua xs.length uc, .slice va ys.length vc] 26))
  clear o4 b4 p0 p1 L3 B3 L4
  go_wp2_with fail
  refine (unhide IM _ _ _ ((unhide O5).ri hx hy).1).mono ?_
  rintro e w6 ⟨rfl, b6⟩
  have B6 := B5.trans (b6.mono B5.size)
  have L6 := (unhide L5).below b6 (by have := (unhide L5).lt; omega)
  have X6 := (unhide X5).below b6 (by simp)
  have O6 := (unhide O5).below b6
  have s6 := b6.size
  simp at s6
  clear L5 X5 O5 IM b6 B5 B4 R4
  have K : Hid (∀ w', Below w6.heap.size w6 w' → Below w6.heap.size w6 w' ∧ (w'.cell? ⟨w.heap.size, 0, none⟩ = some (.slice ao xs.length ca) ∧ w'.cell? ⟨w.heap.size, 1, none⟩ = some (.slice bo ys.length cb)) ∧ (w'.cell? ⟨w4.heap.size, 0, none⟩ = some (.slice ua xs.length uc) ∧ w'.cell? ⟨w4.heap.size, 1, none⟩ = some (.slice va ys.length vc))) := hide fun w' hb' => by
    have l := (L6.below hb' L6.lt).cells
    have x := (X6.below hb' X6.lt).cells
    exact ⟨hb', ⟨l.1, l.2.1⟩, ⟨x.1, x.2.1⟩⟩
  have bA : Below w6.heap.size w6 w6.drew := Below.drew (Below.refl _ _)
  have hKeep := unhide K _ bA
  have RX := hide fun w' (hb' : Below w6.heap.size w6 w') => (O6.below hb').ri hx hy
  have EQ := hide fun a b w h h' => eqLedger_yes (.slice ua xs.length uc) (.slice va ys.length vc) a b xs ys w h h'
  clear L6 X6 O6
  go_wp2_with fail
  go_region_held3 (fun w' => Below w6.heap.size w6 w' ∧ (w'.cell? ⟨w.heap.size, 0, none⟩ = some (.slice ao xs.length ca) ∧ w'.cell? ⟨w.heap.size, 1, none⟩ = some (.slice bo ys.length cb)) ∧ (w'.cell? ⟨w4.heap.size, 0, none⟩ = some (.slice ua xs.length uc) ∧ w'.cell? ⟨w4.heap.size, 1, none⟩ = some (.slice va ys.length vc))) (exact hKeep) (first
    | (go_at_call 27; have hgo := bA; refine (unhide TO _ (unhide RA _ (B6.trans (bA.mono B6.size)))).mono ?_; rintro e wa ⟨u7, v7, rfl, o7, b7⟩
       have bB : Below w6.heap.size w6 wa := bA.trans (b7.mono bA.size)
       have R7 := hide (o7.ri hx hy)
       have hKeep := unhide K _ bB; clear bA hgo o7 b7)
    | (go_at_call 28; have hgo := bB; refine (unhide EQ _ _ _ (unhide RX _ bB) (unhide R7)).mono ?_; rintro e wb ⟨rfl, b8⟩
       have bC : Below w6.heap.size w6 wb := bB.trans (b8.mono bB.size)
       have hKeep := unhide K _ bC; clear bB hgo b8))
  all_goals
    go_wp2
    go_ret
    exact ⟨rfl, B6.trans (bC.mono B6.size)⟩

theorem fnTotal_walk (ao bo : Option Addr) (ca cb : Nat) (xs ys : List Int) (w : World) (hn : xs.length ≤ maxLen) (hm : ys.length ≤ maxLen) (ha : AI w ao xs) (hb : AI w bo ys) :
    Calls Try.prog 10 #[lv (.slice ao xs.length ca) (.slice bo ys.length cb)] w fun e w' => e = .returned (.bool true) ∧ Below w.heap.size w w' := by
  unfold maxLen at hn hm
  by_cases h : xs.length + ys.length ≤ 1048576
  · exact fnTotal_short ao bo ca cb xs ys w h ha hb
  · exact fnTotal_long ao bo xs.length ca ys.length cb w (by omega) (by omega) (by omega)
end Go.Proofs.Ytlglekfmiacdnaa
