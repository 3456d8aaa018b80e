/-
  No cell of these rows narrows 'for every input' (looked for: loops, veiled, ifaces, maps, wideKeys, modest, calm, conditions, laid).
  DERIVED. THE GIVEN ROWS OF THIS SEAT. 3 by the template 'for every input the law returns true; each argument reads behind the call as it read before'; 0 by the template 'total and deterministic' (their statements: YthdieladjnneoaaTotals.lean).
  GIVEN WITH THE SEED: the statements are not yours to turn. If you find one false, say at which input.
  Laid BY PROGRAM, IN A SANDBOX (cutbox-rows.mjs): the forced cells as the released guide's own fill.sh prints them over the translation f55228499a37da8f… (all of the seat's roots in one cut). By AI agents, Wed Nov 11 2026. No macro, syntax, notation, axiom, sorry.
-/
import Derived.Test.YthdieladjnneoaaChecked
import GoSem.Claim
import GoSem.ClaimJoined
import GoSem.ClaimMapViews
import Derived.JoinedTies
import Derived.KernelRfl
namespace Go.Proofs.Ythdieladjnneoaa
/- THE CELL 'sum', in the pinned program and in every row, IS THE sha256 OF THE DUMP (.gsa) THAT YthdieladjnneoaaProg.lean LOADS. Nothing in Lean hashes anything: it is a label: what it is worth is what the hold of that sum in a sandbox is worth. -/
noncomputable def Try.pinned : Pinned := { name := "ythdieladjnneoaa", sum := "f55228499a37da8f5e421d735dc40485d79694a0fc302178fd63d432dd6fe475", checked := Try.checked }
namespace Rows
def none {H : Type} : Left H := { results := [], args := [] }

/-- 'daybreaklaw10.PortTells': WHATEVER THE INPUT: true; the input reads as it did. -/
def portTellsSpec : ChangeSpec := { name := "portTells", fn := fun _ => fun
  | [d] => { results := [.lit (.bool true)], args := [d] }
  | _ => none }
def portTellsRow : OpenClaim := { program := "ythdieladjnneoaa", sum := "f55228499a37da8f5e421d735dc40485d79694a0fc302178fd63d432dd6fe475", func := "daybreak/daybreaklaw10.PortTells", spec := "portTells", apart := false }
def PortTellsSaid : Prop := portTellsRow.holds Try.pinned (OpenSpec.ofChange portTellsSpec)

/-- ITS FALSE NEIGHBOUR: 'it returns false'. Refute it at one input. -/
def portTellsWrong : ChangeSpec := { name := "portTells", fn := fun _ => fun
  | [d] => { results := [.lit (.bool false)], args := [d] }
  | _ => none }
def PortTellsWrongFalsely : Prop := portTellsRow.holds Try.pinned (OpenSpec.ofChange portTellsWrong)

/-- 'daybreaklaw10.PortOwn': WHATEVER THE INPUT: true; the input reads as it did. -/
def portOwnSpec : ChangeSpec := { name := "portOwn", fn := fun _ => fun
  | [d1, d2] => { results := [.lit (.bool true)], args := [d1, d2] }
  | _ => none }
def portOwnRow : OpenClaim := { program := "ythdieladjnneoaa", sum := "f55228499a37da8f5e421d735dc40485d79694a0fc302178fd63d432dd6fe475", func := "daybreak/daybreaklaw10.PortOwn", spec := "portOwn", apart := false }
def PortOwnSaid : Prop := portOwnRow.holds Try.pinned (OpenSpec.ofChange portOwnSpec)

/-- ITS FALSE NEIGHBOUR: 'it returns false'. Refute it at one input. -/
def portOwnWrong : ChangeSpec := { name := "portOwn", fn := fun _ => fun
  | [d1, d2] => { results := [.lit (.bool false)], args := [d1, d2] }
  | _ => none }
def PortOwnWrongFalsely : Prop := portOwnRow.holds Try.pinned (OpenSpec.ofChange portOwnWrong)

/-- 'daybreaklaw10.PortBoth': WHATEVER THE INPUT: true; the input reads as it did. -/
def portBothSpec : ChangeSpec := { name := "portBoth", fn := fun _ => fun
  | [d1, d2] => { results := [.lit (.bool true)], args := [d1, d2] }
  | _ => none }
def portBothRow : OpenClaim := { program := "ythdieladjnneoaa", sum := "f55228499a37da8f5e421d735dc40485d79694a0fc302178fd63d432dd6fe475", func := "daybreak/daybreaklaw10.PortBoth", spec := "portBoth", apart := false }
def PortBothSaid : Prop := portBothRow.holds Try.pinned (OpenSpec.ofChange portBothSpec)

/-- ITS FALSE NEIGHBOUR: 'it returns false'. Refute it at one input. -/
def portBothWrong : ChangeSpec := { name := "portBoth", fn := fun _ => fun
  | [d1, d2] => { results := [.lit (.bool false)], args := [d1, d2] }
  | _ => none }
def PortBothWrongFalsely : Prop := portBothRow.holds Try.pinned (OpenSpec.ofChange portBothWrong)

/- THE SECOND FORM. 'bulk': how many values and letters a reading holds, each counted each time it is reached (what is shared counts as often as it is met; a slice's spare places count too). A statement '..UptoSaid' is the law's where the arguments, and the package variables that the reading takes, are together of bulk at most 1048576: NARROWER than '..Said'. Prove '..Said' where nothing that the law and all that it calls make is longer than what came in: it says more and counts as full. Else prove '..UptoSaid'. A law counts once. -/
mutual
def uptoBulk {H : Type} : DataW H → Nat
  | .lit (.string bytes) => bytes.length + 1
  | .lit _ => 1
  | .nil => 1
  | .ptr d => uptoBulk d + 1
  | .slice elems spare => uptoBulkAll elems + uptoBulkAll spare + 1
  | .agg parts => uptoBulkAll parts + 1
  | .iface _ d => uptoBulk d + 1
  | .map entries => uptoBulkEntries entries + 1
  | .held _ => 1
def uptoBulkAll {H : Type} : List (DataW H) → Nat
  | [] => 0
  | d :: r => uptoBulk d + uptoBulkAll r
def uptoBulkEntries {H : Type} : List (Lit × DataW H) → Nat
  | [] => 0
  | x :: r => uptoBulkEntry x + uptoBulkEntries r
def uptoBulkEntry {H : Type} : Lit × DataW H → Nat
  | (.string bytes, d) => bytes.length + uptoBulk d + 1
  | (_, d) => uptoBulk d + 1
 end
def uptoSmall : (H : Type) → List (DataW H) → Bool := fun _ ds => decide (uptoBulkAll ds ≤ 1048576)
def OpenSpec.upto (s : _root_.Go.ChangeSpec) : _root_.Go.OpenSpec := { _root_.Go.OpenSpec.ofChange s with cond := some uptoSmall }

/-- 'daybreaklaw10.PortTells', WHERE WHAT IT READS IS OF BULK AT MOST 1048576: true; the input reads as it did. -/
def portTellsUptoRow : OpenClaim := { program := "ythdieladjnneoaa", sum := "f55228499a37da8f5e421d735dc40485d79694a0fc302178fd63d432dd6fe475", func := "daybreak/daybreaklaw10.PortTells", spec := "portTells", apart := false, narrowed := true }
def PortTellsUptoSaid : Prop := portTellsUptoRow.holds Try.pinned (OpenSpec.upto portTellsSpec)

/-- 'daybreaklaw10.PortOwn', WHERE WHAT IT READS IS OF BULK AT MOST 1048576: true; the input reads as it did. -/
def portOwnUptoRow : OpenClaim := { program := "ythdieladjnneoaa", sum := "f55228499a37da8f5e421d735dc40485d79694a0fc302178fd63d432dd6fe475", func := "daybreak/daybreaklaw10.PortOwn", spec := "portOwn", apart := false, narrowed := true }
def PortOwnUptoSaid : Prop := portOwnUptoRow.holds Try.pinned (OpenSpec.upto portOwnSpec)

/-- 'daybreaklaw10.PortBoth', WHERE WHAT IT READS IS OF BULK AT MOST 1048576: true; the input reads as it did. -/
def portBothUptoRow : OpenClaim := { program := "ythdieladjnneoaa", sum := "f55228499a37da8f5e421d735dc40485d79694a0fc302178fd63d432dd6fe475", func := "daybreak/daybreaklaw10.PortBoth", spec := "portBoth", apart := false, narrowed := true }
def PortBothUptoSaid : Prop := portBothUptoRow.holds Try.pinned (OpenSpec.upto portBothSpec)

end Rows
end Go.Proofs.Ythdieladjnneoaa
