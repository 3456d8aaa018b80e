/-
  No cell of these rows narrows 'for every input' (looked for: loops, veiled, ifaces, maps, wideKeys, modest, calm, conditions, laid).
  DERIVED. THE GIVEN ROWS OF THIS SEAT. 4 by the template 'for every input the law returns true; each argument reads behind the call as it read before'; 0 by the template 'total and deterministic' (their statements: YtkdmmomfolhfbaaTotals.lean).
  GIVEN WITH THE SEED: the statements are not yours to turn. If you find one false, say at which input.
  Laid BY PROGRAM, IN A SANDBOX (cutbox-rows.mjs): the forced cells as the released guide's own fill.sh prints them over the translation ac5d2eda6e5d7bab… (all of the seat's roots in one cut). By AI agents, Wed Nov 11 2026. No macro, syntax, notation, axiom, sorry.
-/
import Derived.Test.YtkdmmomfolhfbaaChecked
import GoSem.Claim
import GoSem.ClaimJoined
import GoSem.ClaimMapViews
import Derived.JoinedTies
import Derived.KernelRfl
namespace Go.Proofs.Ytkdmmomfolhfbaa
/- THE CELL 'sum', in the pinned program and in every row, IS THE sha256 OF THE DUMP (.gsa) THAT YtkdmmomfolhfbaaProg.lean LOADS. Nothing in Lean hashes anything: it is a label: what it is worth is what the hold of that sum in a sandbox is worth. -/
noncomputable def Try.pinned : Pinned := { name := "ytkdmmomfolhfbaa", sum := "ac5d2eda6e5d7bab5550dccaaa752265a4d2322d8b2c07186820e40e94aca7f9", checked := Try.checked }
namespace Rows
def none {H : Type} : Left H := { results := [], args := [] }

/-- 'daybreaklaw13.HubTells': WHATEVER THE INPUT: true; the input reads as it did. -/
def hubTellsSpec : ChangeSpec := { name := "hubTells", fn := fun _ => fun
  | [d1, d2, d3] => { results := [.lit (.bool true)], args := [d1, d2, d3] }
  | _ => none }
def hubTellsRow : OpenClaim := { program := "ytkdmmomfolhfbaa", sum := "ac5d2eda6e5d7bab5550dccaaa752265a4d2322d8b2c07186820e40e94aca7f9", func := "daybreak/daybreaklaw13.HubTells", spec := "hubTells", apart := false }
def HubTellsSaid : Prop := hubTellsRow.holds Try.pinned (OpenSpec.ofChange hubTellsSpec)

/-- ITS FALSE NEIGHBOUR: 'it returns false'. Refute it at one input. -/
def hubTellsWrong : ChangeSpec := { name := "hubTells", fn := fun _ => fun
  | [d1, d2, d3] => { results := [.lit (.bool false)], args := [d1, d2, d3] }
  | _ => none }
def HubTellsWrongFalsely : Prop := hubTellsRow.holds Try.pinned (OpenSpec.ofChange hubTellsWrong)

/-- 'daybreaklaw13.HubApart': WHATEVER THE INPUT: true; the input reads as it did. -/
def hubApartSpec : ChangeSpec := { name := "hubApart", fn := fun _ => fun
  | [d1, d2, d3] => { results := [.lit (.bool true)], args := [d1, d2, d3] }
  | _ => none }
def hubApartRow : OpenClaim := { program := "ytkdmmomfolhfbaa", sum := "ac5d2eda6e5d7bab5550dccaaa752265a4d2322d8b2c07186820e40e94aca7f9", func := "daybreak/daybreaklaw13.HubApart", spec := "hubApart", apart := false }
def HubApartSaid : Prop := hubApartRow.holds Try.pinned (OpenSpec.ofChange hubApartSpec)

/-- ITS FALSE NEIGHBOUR: 'it returns false'. Refute it at one input. -/
def hubApartWrong : ChangeSpec := { name := "hubApart", fn := fun _ => fun
  | [d1, d2, d3] => { results := [.lit (.bool false)], args := [d1, d2, d3] }
  | _ => none }
def HubApartWrongFalsely : Prop := hubApartRow.holds Try.pinned (OpenSpec.ofChange hubApartWrong)

/-- 'daybreaklaw13.HubHolds': WHATEVER THE INPUT: true; the input reads as it did. -/
def hubHoldsSpec : ChangeSpec := { name := "hubHolds", fn := fun _ => fun
  | [d] => { results := [.lit (.bool true)], args := [d] }
  | _ => none }
def hubHoldsRow : OpenClaim := { program := "ytkdmmomfolhfbaa", sum := "ac5d2eda6e5d7bab5550dccaaa752265a4d2322d8b2c07186820e40e94aca7f9", func := "daybreak/daybreaklaw13.HubHolds", spec := "hubHolds", apart := false }
def HubHoldsSaid : Prop := hubHoldsRow.holds Try.pinned (OpenSpec.ofChange hubHoldsSpec)

/-- ITS FALSE NEIGHBOUR: 'it returns false'. Refute it at one input. -/
def hubHoldsWrong : ChangeSpec := { name := "hubHolds", fn := fun _ => fun
  | [d] => { results := [.lit (.bool false)], args := [d] }
  | _ => none }
def HubHoldsWrongFalsely : Prop := hubHoldsRow.holds Try.pinned (OpenSpec.ofChange hubHoldsWrong)

/-- 'daybreaklaw13.HubForgets': WHATEVER THE INPUT: true; the input reads as it did. -/
def hubForgetsSpec : ChangeSpec := { name := "hubForgets", fn := fun _ => fun
  | [d1, d2, d3] => { results := [.lit (.bool true)], args := [d1, d2, d3] }
  | _ => none }
def hubForgetsRow : OpenClaim := { program := "ytkdmmomfolhfbaa", sum := "ac5d2eda6e5d7bab5550dccaaa752265a4d2322d8b2c07186820e40e94aca7f9", func := "daybreak/daybreaklaw13.HubForgets", spec := "hubForgets", apart := false }
def HubForgetsSaid : Prop := hubForgetsRow.holds Try.pinned (OpenSpec.ofChange hubForgetsSpec)

/-- ITS FALSE NEIGHBOUR: 'it returns false'. Refute it at one input. -/
def hubForgetsWrong : ChangeSpec := { name := "hubForgets", fn := fun _ => fun
  | [d1, d2, d3] => { results := [.lit (.bool false)], args := [d1, d2, d3] }
  | _ => none }
def HubForgetsWrongFalsely : Prop := hubForgetsRow.holds Try.pinned (OpenSpec.ofChange hubForgetsWrong)

/- THE SECOND FORM. 'bulk': how many values and letters a reading holds, each counted each time it is reached (what is shared counts as often as it is met; a slice's spare places count too). A statement '..UptoSaid' is the law's where the arguments, and the package variables that the reading takes, are together of bulk at most 1048576: NARROWER than '..Said'. Prove '..Said' where nothing that the law and all that it calls make is longer than what came in: it says more and counts as full. Else prove '..UptoSaid'. A law counts once. -/
mutual
def uptoBulk {H : Type} : DataW H → Nat
  | .lit (.string bytes) => bytes.length + 1
  | .lit _ => 1
  | .nil => 1
  | .ptr d => uptoBulk d + 1
  | .slice elems spare => uptoBulkAll elems + uptoBulkAll spare + 1
  | .agg parts => uptoBulkAll parts + 1
  | .iface _ d => uptoBulk d + 1
  | .map entries => uptoBulkEntries entries + 1
  | .held _ => 1
def uptoBulkAll {H : Type} : List (DataW H) → Nat
  | [] => 0
  | d :: r => uptoBulk d + uptoBulkAll r
def uptoBulkEntries {H : Type} : List (Lit × DataW H) → Nat
  | [] => 0
  | x :: r => uptoBulkEntry x + uptoBulkEntries r
def uptoBulkEntry {H : Type} : Lit × DataW H → Nat
  | (.string bytes, d) => bytes.length + uptoBulk d + 1
  | (_, d) => uptoBulk d + 1
 end
def uptoSmall : (H : Type) → List (DataW H) → Bool := fun _ ds => decide (uptoBulkAll ds ≤ 1048576)
def OpenSpec.upto (s : _root_.Go.ChangeSpec) : _root_.Go.OpenSpec := { _root_.Go.OpenSpec.ofChange s with cond := some uptoSmall }

/-- 'daybreaklaw13.HubTells', WHERE WHAT IT READS IS OF BULK AT MOST 1048576: true; the input reads as it did. -/
def hubTellsUptoRow : OpenClaim := { program := "ytkdmmomfolhfbaa", sum := "ac5d2eda6e5d7bab5550dccaaa752265a4d2322d8b2c07186820e40e94aca7f9", func := "daybreak/daybreaklaw13.HubTells", spec := "hubTells", apart := false, narrowed := true }
def HubTellsUptoSaid : Prop := hubTellsUptoRow.holds Try.pinned (OpenSpec.upto hubTellsSpec)

/-- 'daybreaklaw13.HubApart', WHERE WHAT IT READS IS OF BULK AT MOST 1048576: true; the input reads as it did. -/
def hubApartUptoRow : OpenClaim := { program := "ytkdmmomfolhfbaa", sum := "ac5d2eda6e5d7bab5550dccaaa752265a4d2322d8b2c07186820e40e94aca7f9", func := "daybreak/daybreaklaw13.HubApart", spec := "hubApart", apart := false, narrowed := true }
def HubApartUptoSaid : Prop := hubApartUptoRow.holds Try.pinned (OpenSpec.upto hubApartSpec)

/-- 'daybreaklaw13.HubHolds', WHERE WHAT IT READS IS OF BULK AT MOST 1048576: true; the input reads as it did. -/
def hubHoldsUptoRow : OpenClaim := { program := "ytkdmmomfolhfbaa", sum := "ac5d2eda6e5d7bab5550dccaaa752265a4d2322d8b2c07186820e40e94aca7f9", func := "daybreak/daybreaklaw13.HubHolds", spec := "hubHolds", apart := false, narrowed := true }
def HubHoldsUptoSaid : Prop := hubHoldsUptoRow.holds Try.pinned (OpenSpec.upto hubHoldsSpec)

/-- 'daybreaklaw13.HubForgets', WHERE WHAT IT READS IS OF BULK AT MOST 1048576: true; the input reads as it did. -/
def hubForgetsUptoRow : OpenClaim := { program := "ytkdmmomfolhfbaa", sum := "ac5d2eda6e5d7bab5550dccaaa752265a4d2322d8b2c07186820e40e94aca7f9", func := "daybreak/daybreaklaw13.HubForgets", spec := "hubForgets", apart := false, narrowed := true }
def HubForgetsUptoSaid : Prop := hubForgetsUptoRow.holds Try.pinned (OpenSpec.upto hubForgetsSpec)

end Rows
end Go.Proofs.Ytkdmmomfolhfbaa
