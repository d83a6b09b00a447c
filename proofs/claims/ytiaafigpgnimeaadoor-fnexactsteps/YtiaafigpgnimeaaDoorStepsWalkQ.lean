/- The walk of laws.FnExactSteps. -/
import Derived.Test.YtiaafigpgnimeaaDoorBunG
import Derived.Test.YtiaafigpgnimeaaDoorBunH
/- The walk of laws.FnExactSteps. -/
namespace Go.Proofs.YtiaafigpgnimeaaDoor
open Go.RowKit

theorem steps_len (s : ByteArray) : ((stepsAns s).getD []).length ≤ 30 ∧ ∀ x ∈ (stepsAns s).getD [], x.2.length ≤ 2 := by
  cases h : stepsAns s with
  | none => simp
  | some ss => exact ⟨((names_iff _ _).1 h).2.1, fun x hx => (((names_iff _ _).1 h).2.2.1 x hx).2.1⟩
/-- A list of steps from blocks below N stands behind what turns blocks from N on alone. -/
theorem OStV.far {w w' : World} {B N : Nat} {v : Value} {ss : List St} {vs : List Value} (h : OStV w B v ss vs) (hb : Below N w w') (hv : ∀ b, v.ownBlock = some b → b < N) (hs : ∀ k, k < ss.length → ∀ b, (vs.getD k (.slice none 0 0)).ownBlock = some b → b < N) : OStV w' B v ss vs := by
  have key : ∀ (e : TypeId) (size n : Nat) (u : Value) (xs : List Value), w.ownsRow B e size u n xs → (∀ b, u.ownBlock = some b → b < N) → w'.ownsRow B e size u n xs := fun e size n u xs hr hu => by
    refine ⟨hr.1, ?_⟩
    rcases hr.2 with h0 | ⟨g, cap, cur, rfl, h1, h2, h3⟩
    · exact .inl h0
    · exact .inr ⟨g, cap, cur, rfl, h1, (hb.block g (hu g rfl)).trans h2, h3⟩
  exact ⟨h.len, key _ _ _ _ _ h.row hv, fun k hk => key _ _ _ _ _ (h.each k hk) (hs k hk), h.apart⟩

set_option maxHeartbeats 400000 in
set_option maxRecDepth 100000 in
theorem fnSteps_long (s : ByteArray) (w : World) (hs : 1048576 < s.size) :
    Calls Tryd.prog 4 #[.string s] w fun e w' => e = .returned (.bool true) ∧ Below w.heap.size w w' := by
  go_enter Tryd.func4, Tryd.ntmps4
  go_wp2
  go_ret
  exact ⟨rfl, Below.refl _ _⟩

set_option maxHeartbeats 4000000 in
set_option maxRecDepth 100000 in
theorem fnSteps_short (s : ByteArray) (w : World) (hE : Env w) (hs : s.size ≤ 1048576) :
    Calls Tryd.prog 4 #[.string s] w fun e w' => e = .returned (.bool true) ∧ Below w.heap.size w w' := by
  obtain ⟨hl, h2⟩ := steps_len s
  have SP := hide fun w => specSteps s w (by omega)
  have IM := hide fun w hE => implSteps s w (by omega) hE
  generalize (stepsAns s).getD [] = ss at *
  generalize (stepsAns s).isSome = q at *
  have hbb : (q != q) = false := by simp
  have hke := kend_le 1 ss h2
  have HN : Hid (∀ x ∈ ss, x.2.length ≤ 35184372088832) := hide fun x hx => by have := h2 x hx; omega
  have HM : Hid (∀ x ∈ smk 1 ss, x.2.length ≤ 35184372088832) := hide fun x hx => by have := smk_two 1 ss h2 x hx; omega
  have H2 := hide h2
  have HE := hide hE
  clear hE h2
  go_enter Tryd.func4, Tryd.ntmps4
  go_wp2_with fail
  refine (unhide SP _).mono ?_
  rintro e w1 ⟨v0, rfl, ⟨vs0, o0⟩, b0⟩
  have s0 := b0.size
  go_wp2_with fail
  refine (unhide IM _ ((unhide HE).below b0)).mono ?_
  rintro e w2 ⟨v1, rfl, ⟨vs1, o1⟩, b1⟩
  have s1 := b1.size
  have F0 := hide (And.intro (fun b hb => (World.ownsRow.lt o0.row b hb).2) (fun k hk b hb => (World.ownsRow.lt (o0.each k hk) b hb).2))
  have o0' := o0.below b1
  have r0 := OSt.rst ⟨_, o0'⟩ (unhide HN)
  have r1 := OSt.rst ⟨_, o1⟩ (unhide HN)
  go_wp2_with fail
  refine (eqStepS_yes v1 v0 ss _ hl r1 r0).mono ?_
  rintro e w3 ⟨rfl, b3⟩
  have s3 := b3.size
  have o1b := o1.below b3
  have o0b := o0'.below b3
  have bb3 : Below w.heap.size w w3 := (b0.trans (b1.mono s0)).trans (b3.mono (by omega))
  clear r0 r1 b3
  go_wp2_with fail
  refine (smark1 w1.heap.size v1 ss vs1 _ hl (unhide H2) (by omega) o1b).mono ?_
  rintro e w4 ⟨rfl, o1', g4⟩
  have o0'' := o0b.far g4 (unhide F0).1 (unhide F0).2
  have b4 : Below w.heap.size w w4 := bb3.trans (g4.mono s0)
  have s4 := b4.size
  have s34 := g4.size
  have r1' := OSt.rst ⟨_, o1'⟩ (unhide HM)
  go_wp2_with fail
  refine (sheld1 v1 ss _ hl (unhide H2) r1').mono ?_
  rintro e w5 ⟨rfl, b5⟩
  have s5 := b5.size
  have o1a := o1'.below b5
  have o0a := o0''.below b5
  have b45 := b4.trans (b5.mono s4)
  clear b0 b1 bb3 g4 b4 b5 o0 o1 o0' o1b o0b o1' o0'' r1'
  go_wp2_with fail
  refine (unhide IM _ ((unhide HE).below b45)).mono ?_
  rintro e w6 ⟨v2, rfl, o2, b6⟩
  have s6 := b6.size
  have o1'' := o1a.below b6
  have r0 := OSt.rst ⟨_, o0a.below b6⟩ (unhide HN)
  have r2 := OSt.rst o2 (unhide HN)
  have b7 : Below w.heap.size w w6 := b45.trans (b6.mono (by omega))
  have s7 := b7.size
  go_wp2_with fail
  refine (eqStepS_yes v2 v0 ss _ hl r2 r0).mono ?_
  rintro e w7 ⟨rfl, c7⟩
  have r1'' := OSt.rst ⟨_, o1''.below c7⟩ (unhide HM)
  have s8 := c7.size
  have b8 := b7.trans (c7.mono s7)
  go_wp2_with fail
  refine (sheld1 v1 ss _ hl (unhide H2) r1'').mono ?_
  rintro e w8 ⟨rfl, c8⟩
  go_wp2
  go_ret
  exact ⟨rfl, b8.trans (c8.mono b8.size)⟩

theorem fnSteps_walk (s : ByteArray) (w : World) (hE : Env w) :
    Calls Tryd.prog 4 #[.string s] w fun e w' => e = .returned (.bool true) ∧ Below w.heap.size w w' := by
  by_cases h : s.size ≤ 1048576
  · exact fnSteps_short s w hE h
  · exact fnSteps_long s w (by omega)
end Go.Proofs.YtiaafigpgnimeaaDoor
