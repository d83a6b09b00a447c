/-
  No cell of these rows narrows 'for every input' (looked for: loops, veiled, ifaces, maps, wideKeys, modest, calm, conditions, laid).
  DERIVED. THE GIVEN ROWS OF THIS SEAT. 6 by the template 'for every input the law returns true; each argument reads behind the call as it read before'; 0 by the template 'total and deterministic' (their statements: YtdgadkinkalcpaaTotals.lean).
  GIVEN WITH THE SEED: the statements are not yours to turn. If you find one false, say at which input.
  Laid BY PROGRAM, IN A SANDBOX (cutbox-rows.mjs): the forced cells as the released guide's own fill.sh prints them over the translation e87dea4470e44035… (all of the seat's roots in one cut). By AI agents, Wed Nov 11 2026. No macro, syntax, notation, axiom, sorry.
-/
import Derived.Test.YtdgadkinkalcpaaChecked
import GoSem.Claim
import GoSem.ClaimJoined
import GoSem.ClaimMapViews
import Derived.JoinedTies
import Derived.KernelRfl
namespace Go.Proofs.Ytdgadkinkalcpaa
/- THE CELL 'sum', in the pinned program and in every row, IS THE sha256 OF THE DUMP (.gsa) THAT YtdgadkinkalcpaaProg.lean LOADS. Nothing in Lean hashes anything: it is a label: what it is worth is what the hold of that sum in a sandbox is worth. -/
noncomputable def Try.pinned : Pinned := { name := "ytdgadkinkalcpaa", sum := "e87dea4470e44035d7738261371451c2ae47848755c6ee4f59fa8bd2a7a66d89", checked := Try.checked }
namespace Rows
def none {H : Type} : Left H := { results := [], args := [] }

/-- 'laws.FnExactConfOk': WHATEVER THE INPUT: true; the input reads as it did. -/
def fnExactConfOkSpec : ChangeSpec := { name := "fnExactConfOk", fn := fun _ => fun
  | [d] => { results := [.lit (.bool true)], args := [d] }
  | _ => none }
def fnExactConfOkRow : OpenClaim := { program := "ytdgadkinkalcpaa", sum := "e87dea4470e44035d7738261371451c2ae47848755c6ee4f59fa8bd2a7a66d89", func := "loop.example/g00448/laws.FnExactConfOk", spec := "fnExactConfOk", apart := false }
def FnExactConfOkSaid : Prop := fnExactConfOkRow.holds Try.pinned (OpenSpec.ofChange fnExactConfOkSpec)

/-- ITS FALSE NEIGHBOUR: 'it returns false'. Refute it at one input. -/
def fnExactConfOkWrong : ChangeSpec := { name := "fnExactConfOk", fn := fun _ => fun
  | [d] => { results := [.lit (.bool false)], args := [d] }
  | _ => none }
def FnExactConfOkWrongFalsely : Prop := fnExactConfOkRow.holds Try.pinned (OpenSpec.ofChange fnExactConfOkWrong)

/-- 'laws.FnExactFaults': WHATEVER THE INPUT: true; the input reads as it did. -/
def fnExactFaultsSpec : ChangeSpec := { name := "fnExactFaults", fn := fun _ => fun
  | [d] => { results := [.lit (.bool true)], args := [d] }
  | _ => none }
def fnExactFaultsRow : OpenClaim := { program := "ytdgadkinkalcpaa", sum := "e87dea4470e44035d7738261371451c2ae47848755c6ee4f59fa8bd2a7a66d89", func := "loop.example/g00448/laws.FnExactFaults", spec := "fnExactFaults", apart := false }
def FnExactFaultsSaid : Prop := fnExactFaultsRow.holds Try.pinned (OpenSpec.ofChange fnExactFaultsSpec)

/-- ITS FALSE NEIGHBOUR: 'it returns false'. Refute it at one input. -/
def fnExactFaultsWrong : ChangeSpec := { name := "fnExactFaults", fn := fun _ => fun
  | [d] => { results := [.lit (.bool false)], args := [d] }
  | _ => none }
def FnExactFaultsWrongFalsely : Prop := fnExactFaultsRow.holds Try.pinned (OpenSpec.ofChange fnExactFaultsWrong)

/-- 'laws.FnExactQuorum': WHATEVER THE INPUT: true; the input reads as it did. -/
def fnExactQuorumSpec : ChangeSpec := { name := "fnExactQuorum", fn := fun _ => fun
  | [d] => { results := [.lit (.bool true)], args := [d] }
  | _ => none }
def fnExactQuorumRow : OpenClaim := { program := "ytdgadkinkalcpaa", sum := "e87dea4470e44035d7738261371451c2ae47848755c6ee4f59fa8bd2a7a66d89", func := "loop.example/g00448/laws.FnExactQuorum", spec := "fnExactQuorum", apart := false }
def FnExactQuorumSaid : Prop := fnExactQuorumRow.holds Try.pinned (OpenSpec.ofChange fnExactQuorumSpec)

/-- ITS FALSE NEIGHBOUR: 'it returns false'. Refute it at one input. -/
def fnExactQuorumWrong : ChangeSpec := { name := "fnExactQuorum", fn := fun _ => fun
  | [d] => { results := [.lit (.bool false)], args := [d] }
  | _ => none }
def FnExactQuorumWrongFalsely : Prop := fnExactQuorumRow.holds Try.pinned (OpenSpec.ofChange fnExactQuorumWrong)

/-- 'laws.FnExactQcFirst': WHATEVER THE INPUT: true; the input reads as it did. -/
def fnExactQcFirstSpec : ChangeSpec := { name := "fnExactQcFirst", fn := fun _ => fun
  | [] => { results := [.lit (.bool true)], args := [] }
  | _ => none }
def fnExactQcFirstRow : OpenClaim := { program := "ytdgadkinkalcpaa", sum := "e87dea4470e44035d7738261371451c2ae47848755c6ee4f59fa8bd2a7a66d89", func := "loop.example/g00448/laws.FnExactQcFirst", spec := "fnExactQcFirst", apart := false }
def FnExactQcFirstSaid : Prop := fnExactQcFirstRow.holds Try.pinned (OpenSpec.ofChange fnExactQcFirstSpec)

/-- ITS FALSE NEIGHBOUR: 'it returns false'. Refute it at one input. -/
def fnExactQcFirstWrong : ChangeSpec := { name := "fnExactQcFirst", fn := fun _ => fun
  | [] => { results := [.lit (.bool false)], args := [] }
  | _ => none }
def FnExactQcFirstWrongFalsely : Prop := fnExactQcFirstRow.holds Try.pinned (OpenSpec.ofChange fnExactQcFirstWrong)

/-- 'laws.FnExactQcSame': WHATEVER THE INPUT: true; the input reads as it did. -/
def fnExactQcSameSpec : ChangeSpec := { name := "fnExactQcSame", fn := fun _ => fun
  | [d1, d2] => { results := [.lit (.bool true)], args := [d1, d2] }
  | _ => none }
def fnExactQcSameRow : OpenClaim := { program := "ytdgadkinkalcpaa", sum := "e87dea4470e44035d7738261371451c2ae47848755c6ee4f59fa8bd2a7a66d89", func := "loop.example/g00448/laws.FnExactQcSame", spec := "fnExactQcSame", apart := false }
def FnExactQcSameSaid : Prop := fnExactQcSameRow.holds Try.pinned (OpenSpec.ofChange fnExactQcSameSpec)

/-- ITS FALSE NEIGHBOUR: 'it returns false'. Refute it at one input. -/
def fnExactQcSameWrong : ChangeSpec := { name := "fnExactQcSame", fn := fun _ => fun
  | [d1, d2] => { results := [.lit (.bool false)], args := [d1, d2] }
  | _ => none }
def FnExactQcSameWrongFalsely : Prop := fnExactQcSameRow.holds Try.pinned (OpenSpec.ofChange fnExactQcSameWrong)

/-- 'laws.FnExactQcLater': WHATEVER THE INPUT: true; the input reads as it did. -/
def fnExactQcLaterSpec : ChangeSpec := { name := "fnExactQcLater", fn := fun _ => fun
  | [d1, d2] => { results := [.lit (.bool true)], args := [d1, d2] }
  | _ => none }
def fnExactQcLaterRow : OpenClaim := { program := "ytdgadkinkalcpaa", sum := "e87dea4470e44035d7738261371451c2ae47848755c6ee4f59fa8bd2a7a66d89", func := "loop.example/g00448/laws.FnExactQcLater", spec := "fnExactQcLater", apart := false }
def FnExactQcLaterSaid : Prop := fnExactQcLaterRow.holds Try.pinned (OpenSpec.ofChange fnExactQcLaterSpec)

/-- ITS FALSE NEIGHBOUR: 'it returns false'. Refute it at one input. -/
def fnExactQcLaterWrong : ChangeSpec := { name := "fnExactQcLater", fn := fun _ => fun
  | [d1, d2] => { results := [.lit (.bool false)], args := [d1, d2] }
  | _ => none }
def FnExactQcLaterWrongFalsely : Prop := fnExactQcLaterRow.holds Try.pinned (OpenSpec.ofChange fnExactQcLaterWrong)

/- THE SECOND FORM. 'bulk': how many values and letters a reading holds, each counted each time it is reached (what is shared counts as often as it is met; a slice's spare places count too). A statement '..UptoSaid' is the law's where the arguments, and the package variables that the reading takes, are together of bulk at most 1048576: NARROWER than '..Said'. Prove '..Said' where nothing that the law and all that it calls make is longer than what came in: it says more and counts as full. Else prove '..UptoSaid'. A law counts once. -/
mutual
def uptoBulk {H : Type} : DataW H → Nat
  | .lit (.string bytes) => bytes.length + 1
  | .lit _ => 1
  | .nil => 1
  | .ptr d => uptoBulk d + 1
  | .slice elems spare => uptoBulkAll elems + uptoBulkAll spare + 1
  | .agg parts => uptoBulkAll parts + 1
  | .iface _ d => uptoBulk d + 1
  | .map entries => uptoBulkEntries entries + 1
  | .held _ => 1
def uptoBulkAll {H : Type} : List (DataW H) → Nat
  | [] => 0
  | d :: r => uptoBulk d + uptoBulkAll r
def uptoBulkEntries {H : Type} : List (Lit × DataW H) → Nat
  | [] => 0
  | x :: r => uptoBulkEntry x + uptoBulkEntries r
def uptoBulkEntry {H : Type} : Lit × DataW H → Nat
  | (.string bytes, d) => bytes.length + uptoBulk d + 1
  | (_, d) => uptoBulk d + 1
 end
def uptoSmall : (H : Type) → List (DataW H) → Bool := fun _ ds => decide (uptoBulkAll ds ≤ 1048576)
def OpenSpec.upto (s : _root_.Go.ChangeSpec) : _root_.Go.OpenSpec := { _root_.Go.OpenSpec.ofChange s with cond := some uptoSmall }

/-- 'laws.FnExactConfOk', WHERE WHAT IT READS IS OF BULK AT MOST 1048576: true; the input reads as it did. -/
def fnExactConfOkUptoRow : OpenClaim := { program := "ytdgadkinkalcpaa", sum := "e87dea4470e44035d7738261371451c2ae47848755c6ee4f59fa8bd2a7a66d89", func := "loop.example/g00448/laws.FnExactConfOk", spec := "fnExactConfOk", apart := false, narrowed := true }
def FnExactConfOkUptoSaid : Prop := fnExactConfOkUptoRow.holds Try.pinned (OpenSpec.upto fnExactConfOkSpec)

/-- 'laws.FnExactFaults', WHERE WHAT IT READS IS OF BULK AT MOST 1048576: true; the input reads as it did. -/
def fnExactFaultsUptoRow : OpenClaim := { program := "ytdgadkinkalcpaa", sum := "e87dea4470e44035d7738261371451c2ae47848755c6ee4f59fa8bd2a7a66d89", func := "loop.example/g00448/laws.FnExactFaults", spec := "fnExactFaults", apart := false, narrowed := true }
def FnExactFaultsUptoSaid : Prop := fnExactFaultsUptoRow.holds Try.pinned (OpenSpec.upto fnExactFaultsSpec)

/-- 'laws.FnExactQuorum', WHERE WHAT IT READS IS OF BULK AT MOST 1048576: true; the input reads as it did. -/
def fnExactQuorumUptoRow : OpenClaim := { program := "ytdgadkinkalcpaa", sum := "e87dea4470e44035d7738261371451c2ae47848755c6ee4f59fa8bd2a7a66d89", func := "loop.example/g00448/laws.FnExactQuorum", spec := "fnExactQuorum", apart := false, narrowed := true }
def FnExactQuorumUptoSaid : Prop := fnExactQuorumUptoRow.holds Try.pinned (OpenSpec.upto fnExactQuorumSpec)

/-- 'laws.FnExactQcFirst', WHERE WHAT IT READS IS OF BULK AT MOST 1048576: true; the input reads as it did. -/
def fnExactQcFirstUptoRow : OpenClaim := { program := "ytdgadkinkalcpaa", sum := "e87dea4470e44035d7738261371451c2ae47848755c6ee4f59fa8bd2a7a66d89", func := "loop.example/g00448/laws.FnExactQcFirst", spec := "fnExactQcFirst", apart := false, narrowed := true }
def FnExactQcFirstUptoSaid : Prop := fnExactQcFirstUptoRow.holds Try.pinned (OpenSpec.upto fnExactQcFirstSpec)

/-- 'laws.FnExactQcSame', WHERE WHAT IT READS IS OF BULK AT MOST 1048576: true; the input reads as it did. -/
def fnExactQcSameUptoRow : OpenClaim := { program := "ytdgadkinkalcpaa", sum := "e87dea4470e44035d7738261371451c2ae47848755c6ee4f59fa8bd2a7a66d89", func := "loop.example/g00448/laws.FnExactQcSame", spec := "fnExactQcSame", apart := false, narrowed := true }
def FnExactQcSameUptoSaid : Prop := fnExactQcSameUptoRow.holds Try.pinned (OpenSpec.upto fnExactQcSameSpec)

/-- 'laws.FnExactQcLater', WHERE WHAT IT READS IS OF BULK AT MOST 1048576: true; the input reads as it did. -/
def fnExactQcLaterUptoRow : OpenClaim := { program := "ytdgadkinkalcpaa", sum := "e87dea4470e44035d7738261371451c2ae47848755c6ee4f59fa8bd2a7a66d89", func := "loop.example/g00448/laws.FnExactQcLater", spec := "fnExactQcLater", apart := false, narrowed := true }
def FnExactQcLaterUptoSaid : Prop := fnExactQcLaterUptoRow.holds Try.pinned (OpenSpec.upto fnExactQcLaterSpec)

end Rows
end Go.Proofs.Ytdgadkinkalcpaa
