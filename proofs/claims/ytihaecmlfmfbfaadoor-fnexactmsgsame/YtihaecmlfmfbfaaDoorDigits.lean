/- impl.Digits, and the walk of laws.FnExactDigits. -/
import Derived.Test.YtihaecmlfmfbfaaDoorSpecDigits
import Derived.Test.YtihaecmlfmfbfaaDoorShelfItoa
import Derived.Lib.LaidTab
import Derived.Sort.Grow
namespace Go.Proofs.YtihaecmlfmfbfaaDoor
open Go.RowKit

theorem grow_below (w : World) (k : Nat) (os : Array Obj) : Below w.heap.size w (Sort.grow (w.drewN k) os) :=
  ⟨rfl, rfl, rfl, by simp [Sort.grow], fun i hi => by simp only [Sort.grow, World.heap_drewN]; rw [Array.getElem?_append_left hi]⟩

/-- The table of powers lies as the library's text lays it. -/
abbrev Pow (w : World) : Prop := Lib.TabIs Tryd.prog w "internal/strconv.uint64pow10" .u64 Lib.pow10Tab
theorem gPow : Tryd.prog.globalNamed "internal/strconv.uint64pow10" = some 0 := by kernel_rfl
theorem Pow.below {w w' : World} (h : Pow w) (hb : Below w.heap.size w w') : Pow w' := by
  have hlt : 0 < w.heap.size := cell_lt (h.cell gPow 0 (by decide))
  exact var?_below hb gPow hlt h

set_option maxHeartbeats 400000 in
set_option maxRecDepth 100000 in
theorem implDigits_any (n : Int) (w : World) (h0 : -9223372036854775808 ≤ n) (h1 : n ≤ 9223372036854775807) (ht : Pow w) :
    Calls Tryd.prog 31 #[.int .i64 n] w fun e w' => e = .returned (.string ⟨(Lib.itoa n).toArray⟩) ∧ Below w.heap.size w w' := by
  go_enter Tryd.func31, Tryd.ntmps31
  go_wp2_with fail
  refine (Tryd.strconv_Itoa n h0 h1 _ ht).mono ?_
  rintro e w' ⟨rfl, k, os, rfl⟩
  go_wp2
  go_ret
  exact ⟨rfl, grow_below _ _ _⟩
end Go.Proofs.YtihaecmlfmfbfaaDoor
