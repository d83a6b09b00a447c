/- strings.Clone and lists of texts of the call's own. -/
import Derived.Test.YtihaecmlfmfbfaaDoorBase
namespace Go.Proofs.YtihaecmlfmfbfaaDoor
open Go.RowKit

/-- v is a list of the call's own, from block 'base' on, of the texts xs. -/
def OS (w : World) (base : Nat) (v : Value) (xs : List ByteArray) : Prop := w.ownsRow base 9 1 v xs.length (xs.map Value.string)
theorem OS.below {w w' : World} {base : Nat} {v : Value} {xs : List ByteArray} (h : OS w base v xs) (hb : Below w.heap.size w w') : OS w' base v xs :=
  World.ownsRow.kept (row := none) h ⟨hb.os, hb.tape, hb.output, hb.size, fun k hk _ => hb.block k hk⟩ (by cases v.ownBlock <;> simp)

end Go.Proofs.YtihaecmlfmfbfaaDoor
