/- The later of two certificates, copied. -/
import Derived.Test.YtihaecmlfmfbfaaDoorQcSame
import Derived.Test.YtihaecmlfmfbfaaDoorClone
import Derived.Test.YtihaecmlfmfbfaaDoorCopyInts
import Derived.Test.YtihaecmlfmfbfaaDoorHeldBy
import Derived.Deep.RegionWith
import Derived.Deep.RegionLaw
import Derived.Deep.DeepCutAuto
import Derived.Laws.CopyOwn
namespace Go.Proofs.YtihaecmlfmfbfaaDoor
open Go.RowKit

set_option maxHeartbeats 1600000 in
set_option maxRecDepth 100000 in
theorem implQcSame (n m : Int) (s t : ByteArray) (va vb : Value) (xs ys : List Int) (w : World) (ha : RI w va xs) (hb : RI w vb ys) :
    Calls Tryd.prog 20 #[qv n s va, qv m t vb] w fun e w' => e = .returned (.bool (alikeB n m s t xs ys)) ∧ Below w.heap.size w w' := by
  have B := hide (qalloc2 w (.cells #[.int .i64 n, .string s, va] 34) (.cells #[.int .i64 m, .string t, vb] 34))
  have SM := hide (qsame_any w.heap.size (w.heap.size + 1) n m s t va vb xs ys _ ((loc_at w #[.int .i64 n, .string s, va] 34 rfl).alloc _) (loc_at (w.alloc _) #[.int .i64 m, .string t, vb] 34 (by simp)) (ha.below (unhide B) (Nat.le_refl _)) (hb.below (unhide B) (Nat.le_refl _)))
  clear ha hb
  go_enter Tryd.func20, Tryd.ntmps20
  go_wp2_with fail
  refine (unhide SM).mono ?_
  rintro e w1 ⟨rfl, d, rfl⟩
  go_wp2
  go_ret
  exact ⟨rfl, below_drewN' (unhide B) _⟩

abbrev zq : Obj := .cells #[.int .i64 0, .string ⟨#[]⟩, .slice none 0 0] 34

end Go.Proofs.YtihaecmlfmfbfaaDoor
