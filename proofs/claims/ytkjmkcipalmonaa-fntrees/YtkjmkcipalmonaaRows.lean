/-
  No cell of these rows narrows 'for every input' (looked for: loops, veiled, ifaces, maps, wideKeys, modest, calm, conditions, laid).
  DERIVED. THE GIVEN ROWS OF THIS SEAT. 10 by the template 'for every input the law returns true; each argument reads behind the call as it read before'; 0 by the template 'total and deterministic' (their statements: YtkjmkcipalmonaaTotals.lean).
  GIVEN WITH THE SEED: the statements are not yours to turn. If you find one false, say at which input.
  Laid BY PROGRAM, IN A SANDBOX (cutbox-rows.mjs): the forced cells as the released guide's own fill.sh prints them over the translation 3e53d6e2bff3c53f… (all of the seat's roots in one cut). By AI agents, Wed Nov 11 2026. No macro, syntax, notation, axiom, sorry.
-/
import Derived.Test.YtkjmkcipalmonaaChecked
import GoSem.Claim
import GoSem.ClaimJoined
import GoSem.ClaimMapViews
import Derived.JoinedTies
import Derived.KernelRfl
namespace Go.Proofs.Ytkjmkcipalmonaa
/- THE CELL 'sum', in the pinned program and in every row, IS THE sha256 OF THE DUMP (.gsa) THAT YtkjmkcipalmonaaProg.lean LOADS. Nothing in Lean hashes anything: it is a label: what it is worth is what the hold of that sum in a sandbox is worth. -/
noncomputable def Try.pinned : Pinned := { name := "ytkjmkcipalmonaa", sum := "3e53d6e2bff3c53fe787c91e60d730174a4d06011ecaa79df4a52b9ba4c29c16", checked := Try.checked }
namespace Rows
def none {H : Type} : Left H := { results := [], args := [] }

/-- 'laws.FnTrees': WHATEVER THE INPUT: true; the input reads as it did. -/
def fnTreesSpec : ChangeSpec := { name := "fnTrees", fn := fun _ => fun
  | [d] => { results := [.lit (.bool true)], args := [d] }
  | _ => none }
def fnTreesRow : OpenClaim := { program := "ytkjmkcipalmonaa", sum := "3e53d6e2bff3c53fe787c91e60d730174a4d06011ecaa79df4a52b9ba4c29c16", func := "loop.example/g00448/laws.FnTrees", spec := "fnTrees", unfollowed := true, recurses := true, apart := false }
def FnTreesSaid : Prop := fnTreesRow.holds Try.pinned (OpenSpec.ofChange fnTreesSpec)

/-- ITS FALSE NEIGHBOUR: 'it returns false'. Refute it at one input. -/
def fnTreesWrong : ChangeSpec := { name := "fnTrees", fn := fun _ => fun
  | [d] => { results := [.lit (.bool false)], args := [d] }
  | _ => none }
def FnTreesWrongFalsely : Prop := fnTreesRow.holds Try.pinned (OpenSpec.ofChange fnTreesWrong)

/-- 'laws.FnRootsTurn': WHATEVER THE INPUT: true; the input reads as it did. -/
def fnRootsTurnSpec : ChangeSpec := { name := "fnRootsTurn", fn := fun _ => fun
  | [d] => { results := [.lit (.bool true)], args := [d] }
  | _ => none }
def fnRootsTurnRow : OpenClaim := { program := "ytkjmkcipalmonaa", sum := "3e53d6e2bff3c53fe787c91e60d730174a4d06011ecaa79df4a52b9ba4c29c16", func := "loop.example/g00448/laws.FnRootsTurn", spec := "fnRootsTurn", unfollowed := true, recurses := true, apart := false }
def FnRootsTurnSaid : Prop := fnRootsTurnRow.holds Try.pinned (OpenSpec.ofChange fnRootsTurnSpec)

/-- ITS FALSE NEIGHBOUR: 'it returns false'. Refute it at one input. -/
def fnRootsTurnWrong : ChangeSpec := { name := "fnRootsTurn", fn := fun _ => fun
  | [d] => { results := [.lit (.bool false)], args := [d] }
  | _ => none }
def FnRootsTurnWrongFalsely : Prop := fnRootsTurnRow.holds Try.pinned (OpenSpec.ofChange fnRootsTurnWrong)

/-- 'laws.FnUnderAll': WHATEVER THE INPUT: true; the input reads as it did. -/
def fnUnderAllSpec : ChangeSpec := { name := "fnUnderAll", fn := fun _ => fun
  | [d] => { results := [.lit (.bool true)], args := [d] }
  | _ => none }
def fnUnderAllRow : OpenClaim := { program := "ytkjmkcipalmonaa", sum := "3e53d6e2bff3c53fe787c91e60d730174a4d06011ecaa79df4a52b9ba4c29c16", func := "loop.example/g00448/laws.FnUnderAll", spec := "fnUnderAll", unfollowed := true, recurses := true, apart := false }
def FnUnderAllSaid : Prop := fnUnderAllRow.holds Try.pinned (OpenSpec.ofChange fnUnderAllSpec)

/-- ITS FALSE NEIGHBOUR: 'it returns false'. Refute it at one input. -/
def fnUnderAllWrong : ChangeSpec := { name := "fnUnderAll", fn := fun _ => fun
  | [d] => { results := [.lit (.bool false)], args := [d] }
  | _ => none }
def FnUnderAllWrongFalsely : Prop := fnUnderAllRow.holds Try.pinned (OpenSpec.ofChange fnUnderAllWrong)

/-- 'laws.FnExactRoot': WHATEVER THE INPUT: true; the input reads as it did. -/
def fnExactRootSpec : ChangeSpec := { name := "fnExactRoot", fn := fun _ => fun
  | [d1, d2] => { results := [.lit (.bool true)], args := [d1, d2] }
  | _ => none }
def fnExactRootRow : OpenClaim := { program := "ytkjmkcipalmonaa", sum := "3e53d6e2bff3c53fe787c91e60d730174a4d06011ecaa79df4a52b9ba4c29c16", func := "loop.example/g00448/laws.FnExactRoot", spec := "fnExactRoot", apart := false }
def FnExactRootSaid : Prop := fnExactRootRow.holds Try.pinned (OpenSpec.ofChange fnExactRootSpec)

/-- ITS FALSE NEIGHBOUR: 'it returns false'. Refute it at one input. -/
def fnExactRootWrong : ChangeSpec := { name := "fnExactRoot", fn := fun _ => fun
  | [d1, d2] => { results := [.lit (.bool false)], args := [d1, d2] }
  | _ => none }
def FnExactRootWrongFalsely : Prop := fnExactRootRow.holds Try.pinned (OpenSpec.ofChange fnExactRootWrong)

/-- 'laws.FnExactSeat': WHATEVER THE INPUT: true; the input reads as it did. -/
def fnExactSeatSpec : ChangeSpec := { name := "fnExactSeat", fn := fun _ => fun
  | [d1, d2, d3] => { results := [.lit (.bool true)], args := [d1, d2, d3] }
  | _ => none }
def fnExactSeatRow : OpenClaim := { program := "ytkjmkcipalmonaa", sum := "3e53d6e2bff3c53fe787c91e60d730174a4d06011ecaa79df4a52b9ba4c29c16", func := "loop.example/g00448/laws.FnExactSeat", spec := "fnExactSeat", apart := false }
def FnExactSeatSaid : Prop := fnExactSeatRow.holds Try.pinned (OpenSpec.ofChange fnExactSeatSpec)

/-- ITS FALSE NEIGHBOUR: 'it returns false'. Refute it at one input. -/
def fnExactSeatWrong : ChangeSpec := { name := "fnExactSeat", fn := fun _ => fun
  | [d1, d2, d3] => { results := [.lit (.bool false)], args := [d1, d2, d3] }
  | _ => none }
def FnExactSeatWrongFalsely : Prop := fnExactSeatRow.holds Try.pinned (OpenSpec.ofChange fnExactSeatWrong)

/-- 'laws.FnExactSits': WHATEVER THE INPUT: true; the input reads as it did. -/
def fnExactSitsSpec : ChangeSpec := { name := "fnExactSits", fn := fun _ => fun
  | [d1, d2, d3] => { results := [.lit (.bool true)], args := [d1, d2, d3] }
  | _ => none }
def fnExactSitsRow : OpenClaim := { program := "ytkjmkcipalmonaa", sum := "3e53d6e2bff3c53fe787c91e60d730174a4d06011ecaa79df4a52b9ba4c29c16", func := "loop.example/g00448/laws.FnExactSits", spec := "fnExactSits", apart := false }
def FnExactSitsSaid : Prop := fnExactSitsRow.holds Try.pinned (OpenSpec.ofChange fnExactSitsSpec)

/-- ITS FALSE NEIGHBOUR: 'it returns false'. Refute it at one input. -/
def fnExactSitsWrong : ChangeSpec := { name := "fnExactSits", fn := fun _ => fun
  | [d1, d2, d3] => { results := [.lit (.bool false)], args := [d1, d2, d3] }
  | _ => none }
def FnExactSitsWrongFalsely : Prop := fnExactSitsRow.holds Try.pinned (OpenSpec.ofChange fnExactSitsWrong)

/-- 'laws.FnExactUp': WHATEVER THE INPUT: true; the input reads as it did. -/
def fnExactUpSpec : ChangeSpec := { name := "fnExactUp", fn := fun _ => fun
  | [d1, d2, d3] => { results := [.lit (.bool true)], args := [d1, d2, d3] }
  | _ => none }
def fnExactUpRow : OpenClaim := { program := "ytkjmkcipalmonaa", sum := "3e53d6e2bff3c53fe787c91e60d730174a4d06011ecaa79df4a52b9ba4c29c16", func := "loop.example/g00448/laws.FnExactUp", spec := "fnExactUp", apart := false }
def FnExactUpSaid : Prop := fnExactUpRow.holds Try.pinned (OpenSpec.ofChange fnExactUpSpec)

/-- ITS FALSE NEIGHBOUR: 'it returns false'. Refute it at one input. -/
def fnExactUpWrong : ChangeSpec := { name := "fnExactUp", fn := fun _ => fun
  | [d1, d2, d3] => { results := [.lit (.bool false)], args := [d1, d2, d3] }
  | _ => none }
def FnExactUpWrongFalsely : Prop := fnExactUpRow.holds Try.pinned (OpenSpec.ofChange fnExactUpWrong)

/-- 'laws.FnExactKids': WHATEVER THE INPUT: true; the input reads as it did. -/
def fnExactKidsSpec : ChangeSpec := { name := "fnExactKids", fn := fun _ => fun
  | [d1, d2, d3] => { results := [.lit (.bool true)], args := [d1, d2, d3] }
  | _ => none }
def fnExactKidsRow : OpenClaim := { program := "ytkjmkcipalmonaa", sum := "3e53d6e2bff3c53fe787c91e60d730174a4d06011ecaa79df4a52b9ba4c29c16", func := "loop.example/g00448/laws.FnExactKids", spec := "fnExactKids", unfollowed := true, recurses := true, apart := false }
def FnExactKidsSaid : Prop := fnExactKidsRow.holds Try.pinned (OpenSpec.ofChange fnExactKidsSpec)

/-- ITS FALSE NEIGHBOUR: 'it returns false'. Refute it at one input. -/
def fnExactKidsWrong : ChangeSpec := { name := "fnExactKids", fn := fun _ => fun
  | [d1, d2, d3] => { results := [.lit (.bool false)], args := [d1, d2, d3] }
  | _ => none }
def FnExactKidsWrongFalsely : Prop := fnExactKidsRow.holds Try.pinned (OpenSpec.ofChange fnExactKidsWrong)

/-- 'laws.FnExactUnder': WHATEVER THE INPUT: true; the input reads as it did. -/
def fnExactUnderSpec : ChangeSpec := { name := "fnExactUnder", fn := fun _ => fun
  | [d1, d2, d3] => { results := [.lit (.bool true)], args := [d1, d2, d3] }
  | _ => none }
def fnExactUnderRow : OpenClaim := { program := "ytkjmkcipalmonaa", sum := "3e53d6e2bff3c53fe787c91e60d730174a4d06011ecaa79df4a52b9ba4c29c16", func := "loop.example/g00448/laws.FnExactUnder", spec := "fnExactUnder", unfollowed := true, recurses := true, apart := false }
def FnExactUnderSaid : Prop := fnExactUnderRow.holds Try.pinned (OpenSpec.ofChange fnExactUnderSpec)

/-- ITS FALSE NEIGHBOUR: 'it returns false'. Refute it at one input. -/
def fnExactUnderWrong : ChangeSpec := { name := "fnExactUnder", fn := fun _ => fun
  | [d1, d2, d3] => { results := [.lit (.bool false)], args := [d1, d2, d3] }
  | _ => none }
def FnExactUnderWrongFalsely : Prop := fnExactUnderRow.holds Try.pinned (OpenSpec.ofChange fnExactUnderWrong)

/-- 'laws.FnExactWay': WHATEVER THE INPUT: true; the input reads as it did. -/
def fnExactWaySpec : ChangeSpec := { name := "fnExactWay", fn := fun _ => fun
  | [d1, d2, d3] => { results := [.lit (.bool true)], args := [d1, d2, d3] }
  | _ => none }
def fnExactWayRow : OpenClaim := { program := "ytkjmkcipalmonaa", sum := "3e53d6e2bff3c53fe787c91e60d730174a4d06011ecaa79df4a52b9ba4c29c16", func := "loop.example/g00448/laws.FnExactWay", spec := "fnExactWay", unfollowed := true, recurses := true, apart := false }
def FnExactWaySaid : Prop := fnExactWayRow.holds Try.pinned (OpenSpec.ofChange fnExactWaySpec)

/-- ITS FALSE NEIGHBOUR: 'it returns false'. Refute it at one input. -/
def fnExactWayWrong : ChangeSpec := { name := "fnExactWay", fn := fun _ => fun
  | [d1, d2, d3] => { results := [.lit (.bool false)], args := [d1, d2, d3] }
  | _ => none }
def FnExactWayWrongFalsely : Prop := fnExactWayRow.holds Try.pinned (OpenSpec.ofChange fnExactWayWrong)

/- THE SECOND FORM. 'bulk': how many values and letters a reading holds, each counted each time it is reached (what is shared counts as often as it is met; a slice's spare places count too). A statement '..UptoSaid' is the law's where the arguments, and the package variables that the reading takes, are together of bulk at most 1048576: NARROWER than '..Said'. Prove '..Said' where nothing that the law and all that it calls make is longer than what came in: it says more and counts as full. Else prove '..UptoSaid'. A law counts once. -/
mutual
def uptoBulk {H : Type} : DataW H → Nat
  | .lit (.string bytes) => bytes.length + 1
  | .lit _ => 1
  | .nil => 1
  | .ptr d => uptoBulk d + 1
  | .slice elems spare => uptoBulkAll elems + uptoBulkAll spare + 1
  | .agg parts => uptoBulkAll parts + 1
  | .iface _ d => uptoBulk d + 1
  | .map entries => uptoBulkEntries entries + 1
  | .held _ => 1
def uptoBulkAll {H : Type} : List (DataW H) → Nat
  | [] => 0
  | d :: r => uptoBulk d + uptoBulkAll r
def uptoBulkEntries {H : Type} : List (Lit × DataW H) → Nat
  | [] => 0
  | x :: r => uptoBulkEntry x + uptoBulkEntries r
def uptoBulkEntry {H : Type} : Lit × DataW H → Nat
  | (.string bytes, d) => bytes.length + uptoBulk d + 1
  | (_, d) => uptoBulk d + 1
 end
def uptoSmall : (H : Type) → List (DataW H) → Bool := fun _ ds => decide (uptoBulkAll ds ≤ 1048576)
def OpenSpec.upto (s : _root_.Go.ChangeSpec) : _root_.Go.OpenSpec := { _root_.Go.OpenSpec.ofChange s with cond := some uptoSmall }

/-- 'laws.FnTrees', WHERE WHAT IT READS IS OF BULK AT MOST 1048576: true; the input reads as it did. -/
def fnTreesUptoRow : OpenClaim := { program := "ytkjmkcipalmonaa", sum := "3e53d6e2bff3c53fe787c91e60d730174a4d06011ecaa79df4a52b9ba4c29c16", func := "loop.example/g00448/laws.FnTrees", spec := "fnTrees", unfollowed := true, recurses := true, apart := false, narrowed := true }
def FnTreesUptoSaid : Prop := fnTreesUptoRow.holds Try.pinned (OpenSpec.upto fnTreesSpec)

/-- 'laws.FnRootsTurn', WHERE WHAT IT READS IS OF BULK AT MOST 1048576: true; the input reads as it did. -/
def fnRootsTurnUptoRow : OpenClaim := { program := "ytkjmkcipalmonaa", sum := "3e53d6e2bff3c53fe787c91e60d730174a4d06011ecaa79df4a52b9ba4c29c16", func := "loop.example/g00448/laws.FnRootsTurn", spec := "fnRootsTurn", unfollowed := true, recurses := true, apart := false, narrowed := true }
def FnRootsTurnUptoSaid : Prop := fnRootsTurnUptoRow.holds Try.pinned (OpenSpec.upto fnRootsTurnSpec)

/-- 'laws.FnUnderAll', WHERE WHAT IT READS IS OF BULK AT MOST 1048576: true; the input reads as it did. -/
def fnUnderAllUptoRow : OpenClaim := { program := "ytkjmkcipalmonaa", sum := "3e53d6e2bff3c53fe787c91e60d730174a4d06011ecaa79df4a52b9ba4c29c16", func := "loop.example/g00448/laws.FnUnderAll", spec := "fnUnderAll", unfollowed := true, recurses := true, apart := false, narrowed := true }
def FnUnderAllUptoSaid : Prop := fnUnderAllUptoRow.holds Try.pinned (OpenSpec.upto fnUnderAllSpec)

/-- 'laws.FnExactRoot', WHERE WHAT IT READS IS OF BULK AT MOST 1048576: true; the input reads as it did. -/
def fnExactRootUptoRow : OpenClaim := { program := "ytkjmkcipalmonaa", sum := "3e53d6e2bff3c53fe787c91e60d730174a4d06011ecaa79df4a52b9ba4c29c16", func := "loop.example/g00448/laws.FnExactRoot", spec := "fnExactRoot", apart := false, narrowed := true }
def FnExactRootUptoSaid : Prop := fnExactRootUptoRow.holds Try.pinned (OpenSpec.upto fnExactRootSpec)

/-- 'laws.FnExactSeat', WHERE WHAT IT READS IS OF BULK AT MOST 1048576: true; the input reads as it did. -/
def fnExactSeatUptoRow : OpenClaim := { program := "ytkjmkcipalmonaa", sum := "3e53d6e2bff3c53fe787c91e60d730174a4d06011ecaa79df4a52b9ba4c29c16", func := "loop.example/g00448/laws.FnExactSeat", spec := "fnExactSeat", apart := false, narrowed := true }
def FnExactSeatUptoSaid : Prop := fnExactSeatUptoRow.holds Try.pinned (OpenSpec.upto fnExactSeatSpec)

/-- 'laws.FnExactSits', WHERE WHAT IT READS IS OF BULK AT MOST 1048576: true; the input reads as it did. -/
def fnExactSitsUptoRow : OpenClaim := { program := "ytkjmkcipalmonaa", sum := "3e53d6e2bff3c53fe787c91e60d730174a4d06011ecaa79df4a52b9ba4c29c16", func := "loop.example/g00448/laws.FnExactSits", spec := "fnExactSits", apart := false, narrowed := true }
def FnExactSitsUptoSaid : Prop := fnExactSitsUptoRow.holds Try.pinned (OpenSpec.upto fnExactSitsSpec)

/-- 'laws.FnExactUp', WHERE WHAT IT READS IS OF BULK AT MOST 1048576: true; the input reads as it did. -/
def fnExactUpUptoRow : OpenClaim := { program := "ytkjmkcipalmonaa", sum := "3e53d6e2bff3c53fe787c91e60d730174a4d06011ecaa79df4a52b9ba4c29c16", func := "loop.example/g00448/laws.FnExactUp", spec := "fnExactUp", apart := false, narrowed := true }
def FnExactUpUptoSaid : Prop := fnExactUpUptoRow.holds Try.pinned (OpenSpec.upto fnExactUpSpec)

/-- 'laws.FnExactKids', WHERE WHAT IT READS IS OF BULK AT MOST 1048576: true; the input reads as it did. -/
def fnExactKidsUptoRow : OpenClaim := { program := "ytkjmkcipalmonaa", sum := "3e53d6e2bff3c53fe787c91e60d730174a4d06011ecaa79df4a52b9ba4c29c16", func := "loop.example/g00448/laws.FnExactKids", spec := "fnExactKids", unfollowed := true, recurses := true, apart := false, narrowed := true }
def FnExactKidsUptoSaid : Prop := fnExactKidsUptoRow.holds Try.pinned (OpenSpec.upto fnExactKidsSpec)

/-- 'laws.FnExactUnder', WHERE WHAT IT READS IS OF BULK AT MOST 1048576: true; the input reads as it did. -/
def fnExactUnderUptoRow : OpenClaim := { program := "ytkjmkcipalmonaa", sum := "3e53d6e2bff3c53fe787c91e60d730174a4d06011ecaa79df4a52b9ba4c29c16", func := "loop.example/g00448/laws.FnExactUnder", spec := "fnExactUnder", unfollowed := true, recurses := true, apart := false, narrowed := true }
def FnExactUnderUptoSaid : Prop := fnExactUnderUptoRow.holds Try.pinned (OpenSpec.upto fnExactUnderSpec)

/-- 'laws.FnExactWay', WHERE WHAT IT READS IS OF BULK AT MOST 1048576: true; the input reads as it did. -/
def fnExactWayUptoRow : OpenClaim := { program := "ytkjmkcipalmonaa", sum := "3e53d6e2bff3c53fe787c91e60d730174a4d06011ecaa79df4a52b9ba4c29c16", func := "loop.example/g00448/laws.FnExactWay", spec := "fnExactWay", unfollowed := true, recurses := true, apart := false, narrowed := true }
def FnExactWayUptoSaid : Prop := fnExactWayUptoRow.holds Try.pinned (OpenSpec.upto fnExactWaySpec)

end Rows
end Go.Proofs.Ytkjmkcipalmonaa
