/- TableGetLong: laws.FnExactTableGet and laws.FnExactTableDrop at every table. -/
import Derived.Test.YtehdchpolgihlaaTableGetWalk
import Derived.Test.YtehdchpolgihlaaTableDropWalk
import Derived.Test.YtehdchpolgihlaaPartGetImpl
import Derived.Test.YtehdchpolgihlaaPartDropImpl
namespace Go.Proofs.Ytehdchpolgihlaa
open Go.RowKit
set_option linter.unusedSectionVars false
variable [∀ (a b c d : Int), Decidable (Ok4 a b c d)]
variable [∀ (n f : Int), Decidable (COk n f)]

set_option maxHeartbeats 1600000 in
set_option maxRecDepth 100000 in
theorem fnTableGet_name (v : Value) (view : Int) (name : ByteArray) (w : World) (h : 1048576 < name.size) (hs : name.size ≤ maxLen) :
    Calls Try.prog 4 #[v, .int .i64 view, .string name] w fun e w' => e = .returned (.bool true) ∧ Below w.heap.size w w' := by
  unfold maxLen at hs
  have hd : decide ((1048576 : Int) < (name.size : Int)) = true := by simp; omega
  have hd2 : decide ((name.size : Int) > (1048576 : Int)) = true := by simp; omega
  go_enter Try.func4, Try.ntmps4
  go_wp2
  go_ret
  exact ⟨rfl, Below.refl _ _⟩

set_option maxHeartbeats 1600000 in
set_option maxRecDepth 100000 in
theorem fnTableGet_long (al : Option Addr) (cl : Nat) (rs : List Pr) (view : Int) (name : ByteArray) (w : World) (h : ATab w al rs) (hb : ∀ r ∈ rs, r.2.1.size ≤ maxLen ∧ r.2.2.2.2.length ≤ maxLen) (hm : rs.length ≤ maxLen) (hn : name.size ≤ 1048576) (hs : 1048576 < rs.length + psum rs) :
    Calls Try.prog 4 #[.slice al rs.length cl, .int .i64 view, .string name] w fun e w' => e = .returned (.bool true) ∧ Below w.heap.size w w' := by
  have ZN := hide (szPartS_no al cl rs 1048576 w h hb (by omega) hm (by omega) (by omega))
  have hd : decide ((name.size : Int) > (1048576 : Int)) = false := by simp; omega
  have hd2 : decide ((1048576 : Int) < (name.size : Int)) = false := by simp; omega
  generalize rs.length = n at *
  clear h hb hm hs
  go_enter Try.func4, Try.ntmps4
  go_wp2_with fail
  refine (unhide ZN).mono ?_
  rintro e w1 ⟨rfl, b1⟩
  go_wp2
  go_ret
  exact ⟨rfl, b1⟩

set_option maxHeartbeats 1600000 in
set_option maxRecDepth 100000 in
theorem fnTableDrop_long (al : Option Addr) (cl : Nat) (rs : List Pr) (view : Int) (w : World) (h : ATab w al rs) (hb : ∀ r ∈ rs, r.2.1.size ≤ maxLen ∧ r.2.2.2.2.length ≤ maxLen) (hm : rs.length ≤ maxLen) (hs : 1048576 < rs.length + psum rs) :
    Calls Try.prog 5 #[.slice al rs.length cl, .int .i64 view] w fun e w' => e = .returned (.bool true) ∧ Below w.heap.size w w' := by
  have ZN := hide (szPartS_no al cl rs 1048576 w h hb (by omega) hm (by omega) (by omega))
  generalize rs.length = n at *
  clear h hb hm hs
  go_enter Try.func5, Try.ntmps5
  go_wp2_with fail
  refine (unhide ZN).mono ?_
  rintro e w1 ⟨rfl, b1⟩
  go_wp2
  go_ret
  exact ⟨rfl, b1⟩

/-- What open_parts tells of each part. -/
abbrev AllP (w : World) (rs : List Pr) : Prop := ∀ r ∈ rs, r.2.1.size ≤ maxLen ∧ r.2.2.2.2.length ≤ maxLen ∧ AIW w r.2.2.1 r.2.2.2.2 ∧ WfL r.2.2.2.2
theorem fnTableGet_walk (al : Option Addr) (cl : Nat) (rs : List Pr) (view : Int) (name : ByteArray) (w : World) (hm : rs.length ≤ maxLen) (h : ATab w al rs) (he : AllP w rs) (hn : name.size ≤ maxLen) :
    Calls Try.prog 4 #[.slice al rs.length cl, .int .i64 view, .string name] w fun e w' => e = .returned (.bool true) ∧ Below w.heap.size w w' := by
  by_cases h1 : 1048576 < name.size
  · exact fnTableGet_name _ view name w h1 hn
  · by_cases h2 : 1048576 < rs.length + psum rs
    · exact fnTableGet_long al cl rs view name w h (fun r hr => ⟨(he r hr).1, (he r hr).2.1⟩) hm (by omega) h2
    · exact fnTableGet_short (fun v ps view name w hl hn hs hr => implTableGet v ps view name w (by omega) (by omega) (fun p hp => by have := (hs p hp).1; omega) hr) al cl rs view name w h (fun r hr => (he r hr).2.2.1) (by omega) (by omega)
theorem fnTableDrop_walk (al : Option Addr) (cl : Nat) (rs : List Pr) (view : Int) (w : World) (hm : rs.length ≤ maxLen) (h : ATab w al rs) (he : AllP w rs) :
    Calls Try.prog 5 #[.slice al rs.length cl, .int .i64 view] w fun e w' => e = .returned (.bool true) ∧ Below w.heap.size w w' := by
  by_cases h2 : 1048576 < rs.length + psum rs
  · exact fnTableDrop_long al cl rs view w h (fun r hr => ⟨(he r hr).1, (he r hr).2.1⟩) hm h2
  · exact fnTableDrop_short (fun v ps view w hl hs hr => implTableDrop v ps view w (by omega) (fun p hp => by have := (hs p hp).1; omega) hr) al cl rs view w h (fun r hr => (he r hr).2.2.1) (by omega)
end Go.Proofs.Ytehdchpolgihlaa
