/- What spec.PutNum and impl.PutNum answer: one and the same list of bytes, in memory of its own. -/
import Derived.Test.YtihaecmlfmfbfaaDoorIn
import Derived.Test.YtihaecmlfmfbfaaDoorPlain
namespace Go.Proofs.YtihaecmlfmfbfaaDoor
open Go.RowKit

/-- One byte more behind what is owned. -/
theorem own_more {B : Nat} {w wr w1 : World} {v v' : Value} {o : Obj} {xs : List Int} {c : Int} (hB : B ≤ wr.heap.size) (ho : wr.ownsRow B 5 1 v xs.length (xs.map (Value.int .u8))) (hb : Below B w wr)
    (ho' : w1.ownsRow B 5 1 v' (xs.length + 1) (xs.map (Value.int .u8) ++ [.int .u8 c])) (hg : (wr.alloc o).grownBy w1 v.ownBlock) :
    w1.ownsRow B 5 1 v' (xs ++ [c]).length ((xs ++ [c]).map (Value.int .u8)) ∧ Below B w w1 :=
  ⟨by simpa using ho', (hb.alloc hB o).grown hg (by simp; omega) (fun j hj => (ho.lt j hj).1)⟩

end Go.Proofs.YtihaecmlfmfbfaaDoor
