/- The walk of laws.FnExactTxsOf. -/
import Derived.Test.YtnbiphlificliaaDoorSpecTxsOf
import Derived.Test.YtnbiphlificliaaDoorMarkTx
namespace Go.Proofs.YtnbiphlificliaaDoor
open Go.RowKit
set_option linter.unusedSectionVars false
variable [∀ (a b c d : Int), Decidable (Ok4 a b c d)]
variable [∀ (a b c d : Nat), Decidable (okN a b c d)]

set_option maxHeartbeats 400000 in
set_option maxRecDepth 100000 in
theorem tmark_none (w : World) (k0 : Nat) : Calls Tryd.prog 51 #[.slice none 0 0, .int .i64 k0] w fun e w' => e = .returned (.int .i64 k0) ∧ w' = w := by
  go_enter Tryd.func51, Tryd.ntmps51
  go_wp2
  refine wp_loop_rounds 1 ?_
  rw [rounds_succ]
  go_wp2
  go_ret
  exact ⟨rfl, rfl⟩
theorem tmark1 (base : Nat) (v : Value) (xs : List T4) (w : World) (hl : xs.length ≤ 4194304) (h : OT w base v xs) :
    Calls Tryd.prog 51 #[v, .int .i64 1] w fun e w' => e = .returned (.int .i64 (1 + xs.length * 4)) ∧ OT w' base v (tmarks 1 xs.length) ∧ w.grownBy w' v.ownBlock := by
  have h' := h
  rcases h.2 with ⟨rfl, h0⟩ | ⟨g, cap, cur, rfl, _⟩
  · refine (tmark_none w 1).mono ?_
    rintro e w' ⟨rfl, rfl⟩
    have hx : xs = [] := List.length_eq_zero_iff.1 h0
    subst hx
    exact ⟨by simp, World.ownsRow_nil _ _ _ _, ⟨rfl, rfl, rfl, Nat.le_refl _, fun _ _ _ => rfl⟩⟩
  · refine (tmark_row base g xs.length cap 1 xs w hl (by omega) rfl h').mono ?_
    rintro e w' ⟨rfl, ho, hg⟩
    exact ⟨rfl, ho, hg⟩
theorem theld1 (v : Value) (n : Nat) (w : World) (hn : n ≤ 4194304) (h : RT w v (tmarks 1 n)) :
    Calls Tryd.prog 52 #[v, .int .i64 1] w fun e w' => e = .returned (.int .i64 (1 + n * 4)) ∧ Below w.heap.size w w' := theld_row v n 1 w hn (by omega) h
theorem allTx_len {ps : List ByteArray} {ys : List T4} (h : allTx ps = some ys) : ys.length = ps.length := by
  induction ps generalizing ys with
  | nil => simp [allTx] at h; subst h; rfl
  | cons p ps ih =>
    rw [allTx] at h
    cases hp : txAns p.data.toList with
    | none => rw [hp] at h; cases h
    | some q =>
      rw [hp] at h
      cases hq : allTx ps with
      | none => rw [hq] at h; cases h
      | some zs => rw [hq] at h; simp at h; subst h; simp [ih hq]
theorem txsAns_len (s : ByteArray) (hs : s.size ≤ 1048576) : ((txsAns s).getD []).length ≤ 1048577 := by
  unfold txsAns
  split
  · simp
  · have := splitAns_len s 44
    cases h : allTx (splitAns s 44) with
    | none => simp
    | some ys => have := allTx_len h; simp; omega

set_option maxHeartbeats 400000 in
set_option maxRecDepth 100000 in
theorem fnTxsOf_long (s : ByteArray) (w : World) (hs : 1048576 < s.size) :
    Calls Tryd.prog 8 #[.string s] w fun e w' => e = .returned (.bool true) ∧ Below w.heap.size w w' := by
  go_enter Tryd.func8, Tryd.ntmps8
  go_wp2
  go_ret
  exact ⟨rfl, Below.refl _ _⟩

set_option maxHeartbeats 4000000 in
set_option maxRecDepth 100000 in
theorem fnTxsOf_short (s : ByteArray) (w : World) (hE : Env w) (hs : s.size ≤ 1048576) :
    Calls Tryd.prog 8 #[.string s] w fun e w' => e = .returned (.bool true) ∧ Below w.heap.size w w' := by
  have hl := txsAns_len s hs
  have SP := hide fun w => specTxsOf s w hs
  have IM := hide fun w hE => implTxsOf s w hs hE
  generalize (txsAns s).getD [] = xs at *
  generalize (txsAns s).isSome = q at *
  have hml := tmarks_len 1 xs.length
  have hbb : (q != q) = false := by simp
  have HE := hide hE
  clear hE
  go_enter Tryd.func8, Tryd.ntmps8
  go_wp2_with fail
  refine (unhide SP _).mono ?_
  rintro e w1 ⟨v0, rfl, o0, b0⟩
  have s0 := b0.size
  go_wp2_with fail
  refine (unhide IM _ ((unhide HE).below b0)).mono ?_
  rintro e w2 ⟨v1, rfl, o1, b1⟩
  have s1 := b1.size
  have l0 := o0.lt
  have l1 := o1.lt
  have o0' : OT w2 w.heap.size v0 xs := o0.below b1
  have r0 := o0'.rt (by omega)
  have r1 := o1.rt (by omega)
  go_wp2_with fail
  refine (eqTxS_yes v1 v0 xs _ r1 r0).mono ?_
  rintro e w3 ⟨rfl, b3⟩
  have s3 := b3.size
  have o1b := o1.below b3
  have o0b := o0'.below b3
  have bb3 : Below w.heap.size w w3 := (b0.trans (b1.mono s0)).trans (b3.mono (by omega))
  clear r0 r1 b3
  go_wp2_with fail
  refine (tmark1 w1.heap.size v1 xs _ (by omega) o1b).mono ?_
  rintro e w4 ⟨rfl, o1', g4⟩
  have o0'' : OT w4 w.heap.size v0 xs := o0b.apart g4 (fun k hk => (l0 k hk).2) (fun k hk => (l1 k hk).1)
  have b4 : Below w.heap.size w w4 := bb3.grown g4 (by omega) (fun k hk => by have := (l1 k hk).1; omega)
  have s4 := b4.size
  have r1' := o1'.rt (by omega)
  go_wp2_with fail
  refine (theld1 v1 xs.length _ (by omega) r1').mono ?_
  rintro e w5 ⟨rfl, b5⟩
  have s5 := b5.size
  have o1a := o1'.below b5
  have o0a := o0''.below b5
  have b45 := b4.trans (b5.mono s4)
  clear b0 b1 bb3 g4 b4 b5 o0 o1 o0' o1b o0b o1' o0'' r1'
  go_wp2_with fail
  refine (unhide IM _ ((unhide HE).below b45)).mono ?_
  rintro e w6 ⟨v2, rfl, o2, b6⟩
  have s6 := b6.size
  have o1'' := o1a.below b6
  have r0 := (o0a.below b6).rt (by omega)
  have r2 := o2.rt (by omega)
  have b7 : Below w.heap.size w w6 := b45.trans (b6.mono (by omega))
  have s7 := b7.size
  go_wp2_with fail
  refine (eqTxS_yes v2 v0 xs _ r2 r0).mono ?_
  rintro e w7 ⟨rfl, c7⟩
  have r1'' := (o1''.below c7).rt (by omega)
  have s8 := c7.size
  have b8 := b7.trans (c7.mono s7)
  go_wp2_with fail
  refine (theld1 v1 xs.length _ (by omega) r1'').mono ?_
  rintro e w8 ⟨rfl, c8⟩
  go_wp2
  go_ret
  exact ⟨rfl, b8.trans (c8.mono b8.size)⟩

theorem fnTxsOf_walk (s : ByteArray) (w : World) (hE : Env w) :
    Calls Tryd.prog 8 #[.string s] w fun e w' => e = .returned (.bool true) ∧ Below w.heap.size w w' := by
  by_cases h : s.size ≤ 1048576
  · exact fnTxsOf_short s w hE h
  · exact fnTxsOf_long s w (by omega)
end Go.Proofs.YtnbiphlificliaaDoor
