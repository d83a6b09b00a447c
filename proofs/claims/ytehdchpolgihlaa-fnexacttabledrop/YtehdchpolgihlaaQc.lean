/- Qc: a certificate as a value; laws.eqQc, heldQc, szQc. -/
import Derived.Test.YtehdchpolgihlaaMarkInts
import Derived.Test.YtehdchpolgihlaaIntPieces
import Derived.Test.YtehdchpolgihlaaLoc
namespace Go.Proofs.Ytehdchpolgihlaa
open Go.RowKit

/-- A certificate: its view, its name, who voted. -/
abbrev qv (n : Int) (s : ByteArray) (v : Value) : Value := .agg #[.int .i64 n, .string s, v]
theorem qalloc (w : World) (o : Obj) : Below w.heap.size w (w.alloc o) := (Below.refl _ _).alloc (Nat.le_refl _) _
theorem qalloc2 (w : World) (o p : Obj) : Below w.heap.size w ((w.alloc o).alloc p) := ((Below.refl _ _).alloc (Nat.le_refl _) _).alloc (by simp) _

end Go.Proofs.Ytehdchpolgihlaa
