/- The walk of laws.FnExactTxsIn. -/
import Derived.Test.YtiaafigpgnimeaaDoorBunH
/- The walk of laws.FnExactTxsIn. -/
namespace Go.Proofs.YtiaafigpgnimeaaDoor
open Go.RowKit

theorem txsIn_len (s : ByteArray) : (txsInAns s).length ≤ 60 := by
  unfold txsInAns
  have hl : ((stepsAns s).getD []).length ≤ 30 ∧ ∀ x ∈ (stepsAns s).getD [], x.2.length ≤ 2 := by
    cases h : stepsAns s with
    | none => simp
    | some ss => exact ⟨((names_iff _ _).1 h).2.1, fun x hx => (((names_iff _ _).1 h).2.2.1 x hx).2.1⟩
  have := flat_len _ hl.2
  omega

set_option maxHeartbeats 400000 in
set_option maxRecDepth 100000 in
theorem fnTxsIn_long (s : ByteArray) (w : World) (hs : 1048576 < s.size) :
    Calls Tryd.prog 9 #[.string s] w fun e w' => e = .returned (.bool true) ∧ Below w.heap.size w w' := by
  go_enter Tryd.func9, Tryd.ntmps9
  go_wp2
  go_ret
  exact ⟨rfl, Below.refl _ _⟩

set_option maxHeartbeats 4000000 in
set_option maxRecDepth 100000 in
theorem fnTxsIn_short (s : ByteArray) (w : World) (hE : Env w) (hs : s.size ≤ 1048576) :
    Calls Tryd.prog 9 #[.string s] w fun e w' => e = .returned (.bool true) ∧ Below w.heap.size w w' := by
  have hl := txsIn_len s
  have SP := hide fun w => specTxsIn s w (by omega)
  have IM := hide fun w hE => implTxsIn s w (by omega) hE
  generalize txsInAns s = xs at *
  have hml := tmarks_len 1 xs.length
  have HE := hide hE
  clear hE
  go_enter Tryd.func9, Tryd.ntmps9
  go_wp2_with fail
  refine (unhide SP _).mono ?_
  rintro e w1 ⟨v0, rfl, o0, b0⟩
  have s0 := b0.size
  go_wp2_with fail
  refine (unhide IM _ ((unhide HE).below b0)).mono ?_
  rintro e w2 ⟨v1, rfl, o1, b1⟩
  have s1 := b1.size
  have l0 := o0.lt
  have l1 := o1.lt
  have o0' : OT w2 w.heap.size v0 xs := o0.below b1
  have r0 := o0'.rt (by omega)
  have r1 := o1.rt (by omega)
  go_wp2_with fail
  refine (eqTxS_yes v1 v0 xs _ r1 r0).mono ?_
  rintro e w3 ⟨rfl, b3⟩
  have s3 := b3.size
  have o1b := o1.below b3
  have o0b := o0'.below b3
  have bb3 : Below w.heap.size w w3 := (b0.trans (b1.mono s0)).trans (b3.mono (by omega))
  clear r0 r1 b3
  go_wp2_with fail
  refine (tmark1 w1.heap.size v1 xs _ (by omega) o1b).mono ?_
  rintro e w4 ⟨rfl, o1', g4⟩
  have o0'' : OT w4 w.heap.size v0 xs := o0b.apart g4 (fun k hk => (l0 k hk).2) (fun k hk => (l1 k hk).1)
  have b4 : Below w.heap.size w w4 := bb3.grown g4 (by omega) (fun k hk => by have := (l1 k hk).1; omega)
  have s4 := b4.size
  have r1' := o1'.rt (by omega)
  go_wp2_with fail
  refine (theld1 v1 xs.length _ (by omega) r1').mono ?_
  rintro e w5 ⟨rfl, b5⟩
  have s5 := b5.size
  have o1a := o1'.below b5
  have o0a := o0''.below b5
  have b45 := b4.trans (b5.mono s4)
  clear b0 b1 bb3 g4 b4 b5 o0 o1 o0' o1b o0b o1' o0'' r1'
  go_wp2_with fail
  refine (unhide IM _ ((unhide HE).below b45)).mono ?_
  rintro e w6 ⟨v2, rfl, o2, b6⟩
  have s6 := b6.size
  have o1'' := o1a.below b6
  have r0 := (o0a.below b6).rt (by omega)
  have r2 := o2.rt (by omega)
  have b7 : Below w.heap.size w w6 := b45.trans (b6.mono (by omega))
  have s7 := b7.size
  go_wp2_with fail
  refine (eqTxS_yes v2 v0 xs _ r2 r0).mono ?_
  rintro e w7 ⟨rfl, c7⟩
  have r1'' := (o1''.below c7).rt (by omega)
  have s8 := c7.size
  have b8 := b7.trans (c7.mono s7)
  go_wp2_with fail
  refine (theld1 v1 xs.length _ (by omega) r1'').mono ?_
  rintro e w8 ⟨rfl, c8⟩
  go_wp2
  go_ret
  exact ⟨rfl, b8.trans (c8.mono b8.size)⟩

theorem fnTxsIn_walk (s : ByteArray) (w : World) (hE : Env w) :
    Calls Tryd.prog 9 #[.string s] w fun e w' => e = .returned (.bool true) ∧ Below w.heap.size w w' := by
  by_cases h : s.size ≤ 1048576
  · exact fnTxsIn_short s w hE h
  · exact fnTxsIn_long s w (by omega)
end Go.Proofs.YtiaafigpgnimeaaDoor
