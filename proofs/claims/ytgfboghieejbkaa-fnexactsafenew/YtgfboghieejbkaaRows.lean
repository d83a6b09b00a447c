/-
  No cell of these rows narrows 'for every input' (looked for: loops, veiled, ifaces, maps, wideKeys, modest, calm, conditions, laid).
  DERIVED. THE GIVEN ROWS OF THIS SEAT. 2 by the template 'for every input the law returns true; each argument reads behind the call as it read before'; 0 by the template 'total and deterministic' (their statements: YtgfboghieejbkaaTotals.lean).
  GIVEN WITH THE SEED: the statements are not yours to turn. If you find one false, say at which input.
  Laid BY PROGRAM, IN A SANDBOX (cutbox-rows.mjs): the forced cells as the released guide's own fill.sh prints them over the translation 17b53b9511e4d1ef… (all of the seat's roots in one cut). By AI agents, Wed Nov 11 2026. No macro, syntax, notation, axiom, sorry.
-/
import Derived.Test.YtgfboghieejbkaaChecked
import GoSem.Claim
import GoSem.ClaimJoined
import GoSem.ClaimMapViews
import Derived.JoinedTies
import Derived.KernelRfl
namespace Go.Proofs.Ytgfboghieejbkaa
/- THE CELL 'sum', in the pinned program and in every row, IS THE sha256 OF THE DUMP (.gsa) THAT YtgfboghieejbkaaProg.lean LOADS. Nothing in Lean hashes anything: it is a label: what it is worth is what the hold of that sum in a sandbox is worth. -/
noncomputable def Try.pinned : Pinned := { name := "ytgfboghieejbkaa", sum := "17b53b9511e4d1ef23ea003cdde824721c801e8757bdf1ce4b69015eb7937feb", checked := Try.checked }
namespace Rows
def none {H : Type} : Left H := { results := [], args := [] }

/-- 'laws.FnExactSafeNew': WHATEVER THE INPUT: true; the input reads as it did. -/
def fnExactSafeNewSpec : ChangeSpec := { name := "fnExactSafeNew", fn := fun _ => fun
  | [] => { results := [.lit (.bool true)], args := [] }
  | _ => none }
def fnExactSafeNewRow : OpenClaim := { program := "ytgfboghieejbkaa", sum := "17b53b9511e4d1ef23ea003cdde824721c801e8757bdf1ce4b69015eb7937feb", func := "loop.example/g00448/laws.FnExactSafeNew", spec := "fnExactSafeNew", apart := false }
def FnExactSafeNewSaid : Prop := fnExactSafeNewRow.holds Try.pinned (OpenSpec.ofChange fnExactSafeNewSpec)

/-- ITS FALSE NEIGHBOUR: 'it returns false'. Refute it at one input. -/
def fnExactSafeNewWrong : ChangeSpec := { name := "fnExactSafeNew", fn := fun _ => fun
  | [] => { results := [.lit (.bool false)], args := [] }
  | _ => none }
def FnExactSafeNewWrongFalsely : Prop := fnExactSafeNewRow.holds Try.pinned (OpenSpec.ofChange fnExactSafeNewWrong)

/-- 'laws.FnExactSafeSame': WHATEVER THE INPUT: true; the input reads as it did. -/
def fnExactSafeSameSpec : ChangeSpec := { name := "fnExactSafeSame", fn := fun _ => fun
  | [d1, d2] => { results := [.lit (.bool true)], args := [d1, d2] }
  | _ => none }
def fnExactSafeSameRow : OpenClaim := { program := "ytgfboghieejbkaa", sum := "17b53b9511e4d1ef23ea003cdde824721c801e8757bdf1ce4b69015eb7937feb", func := "loop.example/g00448/laws.FnExactSafeSame", spec := "fnExactSafeSame", apart := false }
def FnExactSafeSameSaid : Prop := fnExactSafeSameRow.holds Try.pinned (OpenSpec.ofChange fnExactSafeSameSpec)

/-- ITS FALSE NEIGHBOUR: 'it returns false'. Refute it at one input. -/
def fnExactSafeSameWrong : ChangeSpec := { name := "fnExactSafeSame", fn := fun _ => fun
  | [d1, d2] => { results := [.lit (.bool false)], args := [d1, d2] }
  | _ => none }
def FnExactSafeSameWrongFalsely : Prop := fnExactSafeSameRow.holds Try.pinned (OpenSpec.ofChange fnExactSafeSameWrong)

/- THE SECOND FORM. 'bulk': how many values and letters a reading holds, each counted each time it is reached (what is shared counts as often as it is met; a slice's spare places count too). A statement '..UptoSaid' is the law's where the arguments, and the package variables that the reading takes, are together of bulk at most 1048576: NARROWER than '..Said'. Prove '..Said' where nothing that the law and all that it calls make is longer than what came in: it says more and counts as full. Else prove '..UptoSaid'. A law counts once. -/
mutual
def uptoBulk {H : Type} : DataW H → Nat
  | .lit (.string bytes) => bytes.length + 1
  | .lit _ => 1
  | .nil => 1
  | .ptr d => uptoBulk d + 1
  | .slice elems spare => uptoBulkAll elems + uptoBulkAll spare + 1
  | .agg parts => uptoBulkAll parts + 1
  | .iface _ d => uptoBulk d + 1
  | .map entries => uptoBulkEntries entries + 1
  | .held _ => 1
def uptoBulkAll {H : Type} : List (DataW H) → Nat
  | [] => 0
  | d :: r => uptoBulk d + uptoBulkAll r
def uptoBulkEntries {H : Type} : List (Lit × DataW H) → Nat
  | [] => 0
  | x :: r => uptoBulkEntry x + uptoBulkEntries r
def uptoBulkEntry {H : Type} : Lit × DataW H → Nat
  | (.string bytes, d) => bytes.length + uptoBulk d + 1
  | (_, d) => uptoBulk d + 1
 end
def uptoSmall : (H : Type) → List (DataW H) → Bool := fun _ ds => decide (uptoBulkAll ds ≤ 1048576)
def OpenSpec.upto (s : _root_.Go.ChangeSpec) : _root_.Go.OpenSpec := { _root_.Go.OpenSpec.ofChange s with cond := some uptoSmall }

/-- 'laws.FnExactSafeNew', WHERE WHAT IT READS IS OF BULK AT MOST 1048576: true; the input reads as it did. -/
def fnExactSafeNewUptoRow : OpenClaim := { program := "ytgfboghieejbkaa", sum := "17b53b9511e4d1ef23ea003cdde824721c801e8757bdf1ce4b69015eb7937feb", func := "loop.example/g00448/laws.FnExactSafeNew", spec := "fnExactSafeNew", apart := false, narrowed := true }
def FnExactSafeNewUptoSaid : Prop := fnExactSafeNewUptoRow.holds Try.pinned (OpenSpec.upto fnExactSafeNewSpec)

/-- 'laws.FnExactSafeSame', WHERE WHAT IT READS IS OF BULK AT MOST 1048576: true; the input reads as it did. -/
def fnExactSafeSameUptoRow : OpenClaim := { program := "ytgfboghieejbkaa", sum := "17b53b9511e4d1ef23ea003cdde824721c801e8757bdf1ce4b69015eb7937feb", func := "loop.example/g00448/laws.FnExactSafeSame", spec := "fnExactSafeSame", apart := false, narrowed := true }
def FnExactSafeSameUptoSaid : Prop := fnExactSafeSameUptoRow.holds Try.pinned (OpenSpec.upto fnExactSafeSameSpec)

end Rows
end Go.Proofs.Ytgfboghieejbkaa
