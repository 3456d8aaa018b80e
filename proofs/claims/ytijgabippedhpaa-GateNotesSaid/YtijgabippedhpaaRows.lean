/-
  No cell of these rows narrows 'for every input' (looked for: loops, veiled, ifaces, maps, wideKeys, modest, calm, conditions, laid).
  DERIVED. THE GIVEN ROWS OF THIS SEAT. 4 by the template 'for every input the law returns true; each argument reads behind the call as it read before'; 0 by the template 'total and deterministic' (their statements: YtijgabippedhpaaTotals.lean).
  GIVEN WITH THE SEED: the statements are not yours to turn. If you find one false, say at which input.
  Laid BY PROGRAM, IN A SANDBOX (cutbox-rows.mjs): the forced cells as the released guide's own fill.sh prints them over the translation bfbfc7dbaaa0025b… (all of the seat's roots in one cut). By AI agents, Wed Nov 11 2026. No macro, syntax, notation, axiom, sorry.
-/
import Derived.Test.YtijgabippedhpaaChecked
import GoSem.Claim
import GoSem.ClaimJoined
import GoSem.ClaimMapViews
import Derived.JoinedTies
import Derived.KernelRfl
namespace Go.Proofs.Ytijgabippedhpaa
/- THE CELL 'sum', in the pinned program and in every row, IS THE sha256 OF THE DUMP (.gsa) THAT YtijgabippedhpaaProg.lean LOADS. Nothing in Lean hashes anything: it is a label: what it is worth is what the hold of that sum in a sandbox is worth. -/
noncomputable def Try.pinned : Pinned := { name := "ytijgabippedhpaa", sum := "bfbfc7dbaaa0025ba3d109f05c49b207cd4e367e9e3cae0bbfa389b0cc120715", checked := Try.checked }
namespace Rows
def none {H : Type} : Left H := { results := [], args := [] }

/-- 'daybreaklaw12.GateTells': WHATEVER THE INPUT: true; the input reads as it did. -/
def gateTellsSpec : ChangeSpec := { name := "gateTells", fn := fun _ => fun
  | [d1, d2, d3] => { results := [.lit (.bool true)], args := [d1, d2, d3] }
  | _ => none }
def gateTellsRow : OpenClaim := { program := "ytijgabippedhpaa", sum := "bfbfc7dbaaa0025ba3d109f05c49b207cd4e367e9e3cae0bbfa389b0cc120715", func := "daybreak/daybreaklaw12.GateTells", spec := "gateTells", apart := false }
def GateTellsSaid : Prop := gateTellsRow.holds Try.pinned (OpenSpec.ofChange gateTellsSpec)

/-- ITS FALSE NEIGHBOUR: 'it returns false'. Refute it at one input. -/
def gateTellsWrong : ChangeSpec := { name := "gateTells", fn := fun _ => fun
  | [d1, d2, d3] => { results := [.lit (.bool false)], args := [d1, d2, d3] }
  | _ => none }
def GateTellsWrongFalsely : Prop := gateTellsRow.holds Try.pinned (OpenSpec.ofChange gateTellsWrong)

/-- 'daybreaklaw12.GateHolds': WHATEVER THE INPUT: true; the input reads as it did. -/
def gateHoldsSpec : ChangeSpec := { name := "gateHolds", fn := fun _ => fun
  | [d1, d2, d3] => { results := [.lit (.bool true)], args := [d1, d2, d3] }
  | _ => none }
def gateHoldsRow : OpenClaim := { program := "ytijgabippedhpaa", sum := "bfbfc7dbaaa0025ba3d109f05c49b207cd4e367e9e3cae0bbfa389b0cc120715", func := "daybreak/daybreaklaw12.GateHolds", spec := "gateHolds", apart := false }
def GateHoldsSaid : Prop := gateHoldsRow.holds Try.pinned (OpenSpec.ofChange gateHoldsSpec)

/-- ITS FALSE NEIGHBOUR: 'it returns false'. Refute it at one input. -/
def gateHoldsWrong : ChangeSpec := { name := "gateHolds", fn := fun _ => fun
  | [d1, d2, d3] => { results := [.lit (.bool false)], args := [d1, d2, d3] }
  | _ => none }
def GateHoldsWrongFalsely : Prop := gateHoldsRow.holds Try.pinned (OpenSpec.ofChange gateHoldsWrong)

/-- 'daybreaklaw12.GateSettles': WHATEVER THE INPUT: true; the input reads as it did. -/
def gateSettlesSpec : ChangeSpec := { name := "gateSettles", fn := fun _ => fun
  | [d1, d2] => { results := [.lit (.bool true)], args := [d1, d2] }
  | _ => none }
def gateSettlesRow : OpenClaim := { program := "ytijgabippedhpaa", sum := "bfbfc7dbaaa0025ba3d109f05c49b207cd4e367e9e3cae0bbfa389b0cc120715", func := "daybreak/daybreaklaw12.GateSettles", spec := "gateSettles", apart := false }
def GateSettlesSaid : Prop := gateSettlesRow.holds Try.pinned (OpenSpec.ofChange gateSettlesSpec)

/-- ITS FALSE NEIGHBOUR: 'it returns false'. Refute it at one input. -/
def gateSettlesWrong : ChangeSpec := { name := "gateSettles", fn := fun _ => fun
  | [d1, d2] => { results := [.lit (.bool false)], args := [d1, d2] }
  | _ => none }
def GateSettlesWrongFalsely : Prop := gateSettlesRow.holds Try.pinned (OpenSpec.ofChange gateSettlesWrong)

/-- 'daybreaklaw12.GateNotes': WHATEVER THE INPUT: true; the input reads as it did. -/
def gateNotesSpec : ChangeSpec := { name := "gateNotes", fn := fun _ => fun
  | [d1, d2, d3] => { results := [.lit (.bool true)], args := [d1, d2, d3] }
  | _ => none }
def gateNotesRow : OpenClaim := { program := "ytijgabippedhpaa", sum := "bfbfc7dbaaa0025ba3d109f05c49b207cd4e367e9e3cae0bbfa389b0cc120715", func := "daybreak/daybreaklaw12.GateNotes", spec := "gateNotes", apart := false }
def GateNotesSaid : Prop := gateNotesRow.holds Try.pinned (OpenSpec.ofChange gateNotesSpec)

/-- ITS FALSE NEIGHBOUR: 'it returns false'. Refute it at one input. -/
def gateNotesWrong : ChangeSpec := { name := "gateNotes", fn := fun _ => fun
  | [d1, d2, d3] => { results := [.lit (.bool false)], args := [d1, d2, d3] }
  | _ => none }
def GateNotesWrongFalsely : Prop := gateNotesRow.holds Try.pinned (OpenSpec.ofChange gateNotesWrong)

/- THE SECOND FORM. 'bulk': how many values and letters a reading holds, each counted each time it is reached (what is shared counts as often as it is met; a slice's spare places count too). A statement '..UptoSaid' is the law's where the arguments, and the package variables that the reading takes, are together of bulk at most 1048576: NARROWER than '..Said'. Prove '..Said' where nothing that the law and all that it calls make is longer than what came in: it says more and counts as full. Else prove '..UptoSaid'. A law counts once. -/
mutual
def uptoBulk {H : Type} : DataW H → Nat
  | .lit (.string bytes) => bytes.length + 1
  | .lit _ => 1
  | .nil => 1
  | .ptr d => uptoBulk d + 1
  | .slice elems spare => uptoBulkAll elems + uptoBulkAll spare + 1
  | .agg parts => uptoBulkAll parts + 1
  | .iface _ d => uptoBulk d + 1
  | .map entries => uptoBulkEntries entries + 1
  | .held _ => 1
def uptoBulkAll {H : Type} : List (DataW H) → Nat
  | [] => 0
  | d :: r => uptoBulk d + uptoBulkAll r
def uptoBulkEntries {H : Type} : List (Lit × DataW H) → Nat
  | [] => 0
  | x :: r => uptoBulkEntry x + uptoBulkEntries r
def uptoBulkEntry {H : Type} : Lit × DataW H → Nat
  | (.string bytes, d) => bytes.length + uptoBulk d + 1
  | (_, d) => uptoBulk d + 1
 end
def uptoSmall : (H : Type) → List (DataW H) → Bool := fun _ ds => decide (uptoBulkAll ds ≤ 1048576)
def OpenSpec.upto (s : _root_.Go.ChangeSpec) : _root_.Go.OpenSpec := { _root_.Go.OpenSpec.ofChange s with cond := some uptoSmall }

/-- 'daybreaklaw12.GateTells', WHERE WHAT IT READS IS OF BULK AT MOST 1048576: true; the input reads as it did. -/
def gateTellsUptoRow : OpenClaim := { program := "ytijgabippedhpaa", sum := "bfbfc7dbaaa0025ba3d109f05c49b207cd4e367e9e3cae0bbfa389b0cc120715", func := "daybreak/daybreaklaw12.GateTells", spec := "gateTells", apart := false, narrowed := true }
def GateTellsUptoSaid : Prop := gateTellsUptoRow.holds Try.pinned (OpenSpec.upto gateTellsSpec)

/-- 'daybreaklaw12.GateHolds', WHERE WHAT IT READS IS OF BULK AT MOST 1048576: true; the input reads as it did. -/
def gateHoldsUptoRow : OpenClaim := { program := "ytijgabippedhpaa", sum := "bfbfc7dbaaa0025ba3d109f05c49b207cd4e367e9e3cae0bbfa389b0cc120715", func := "daybreak/daybreaklaw12.GateHolds", spec := "gateHolds", apart := false, narrowed := true }
def GateHoldsUptoSaid : Prop := gateHoldsUptoRow.holds Try.pinned (OpenSpec.upto gateHoldsSpec)

/-- 'daybreaklaw12.GateSettles', WHERE WHAT IT READS IS OF BULK AT MOST 1048576: true; the input reads as it did. -/
def gateSettlesUptoRow : OpenClaim := { program := "ytijgabippedhpaa", sum := "bfbfc7dbaaa0025ba3d109f05c49b207cd4e367e9e3cae0bbfa389b0cc120715", func := "daybreak/daybreaklaw12.GateSettles", spec := "gateSettles", apart := false, narrowed := true }
def GateSettlesUptoSaid : Prop := gateSettlesUptoRow.holds Try.pinned (OpenSpec.upto gateSettlesSpec)

/-- 'daybreaklaw12.GateNotes', WHERE WHAT IT READS IS OF BULK AT MOST 1048576: true; the input reads as it did. -/
def gateNotesUptoRow : OpenClaim := { program := "ytijgabippedhpaa", sum := "bfbfc7dbaaa0025ba3d109f05c49b207cd4e367e9e3cae0bbfa389b0cc120715", func := "daybreak/daybreaklaw12.GateNotes", spec := "gateNotes", apart := false, narrowed := true }
def GateNotesUptoSaid : Prop := gateNotesUptoRow.holds Try.pinned (OpenSpec.upto gateNotesSpec)

end Rows
end Go.Proofs.Ytijgabippedhpaa
