/-
  No cell of these rows narrows 'for every input' (looked for: loops, veiled, ifaces, maps, wideKeys, modest, calm, conditions, laid).
  DERIVED. THE GIVEN ROWS OF THIS SEAT. 3 by the template 'for every input the law returns true; each argument reads behind the call as it read before'; 0 by the template 'total and deterministic' (their statements: YtlhhmkjhhiimlaaTotals.lean).
  GIVEN WITH THE SEED: the statements are not yours to turn. If you find one false, say at which input.
  Laid BY PROGRAM, IN A SANDBOX (cutbox-rows.mjs): the forced cells as the released guide's own fill.sh prints them over the translation b9182459e1baf898… (all of the seat's roots in one cut). By AI agents, Wed Nov 11 2026. No macro, syntax, notation, axiom, sorry.
-/
import Derived.Test.YtlhhmkjhhiimlaaChecked
import GoSem.Claim
import GoSem.ClaimJoined
import GoSem.ClaimMapViews
import Derived.JoinedTies
import Derived.KernelRfl
namespace Go.Proofs.Ytlhhmkjhhiimlaa
/- THE CELL 'sum', in the pinned program and in every row, IS THE sha256 OF THE DUMP (.gsa) THAT YtlhhmkjhhiimlaaProg.lean LOADS. Nothing in Lean hashes anything: it is a label: what it is worth is what the hold of that sum in a sandbox is worth. -/
noncomputable def Try.pinned : Pinned := { name := "ytlhhmkjhhiimlaa", sum := "b9182459e1baf8988f9dc82afafbd861a01b6e3893a5aaca74c597ca49f88c64", checked := Try.checked }
namespace Rows
def none {H : Type} : Left H := { results := [], args := [] }

/-- 'daybreaklaw08.SayTells': WHATEVER THE INPUT: true; the input reads as it did. -/
def sayTellsSpec : ChangeSpec := { name := "sayTells", fn := fun _ => fun
  | [d1, d2] => { results := [.lit (.bool true)], args := [d1, d2] }
  | _ => none }
def sayTellsRow : OpenClaim := { program := "ytlhhmkjhhiimlaa", sum := "b9182459e1baf8988f9dc82afafbd861a01b6e3893a5aaca74c597ca49f88c64", func := "daybreak/daybreaklaw08.SayTells", spec := "sayTells", apart := false }
def SayTellsSaid : Prop := sayTellsRow.holds Try.pinned (OpenSpec.ofChange sayTellsSpec)

/-- ITS FALSE NEIGHBOUR: 'it returns false'. Refute it at one input. -/
def sayTellsWrong : ChangeSpec := { name := "sayTells", fn := fun _ => fun
  | [d1, d2] => { results := [.lit (.bool false)], args := [d1, d2] }
  | _ => none }
def SayTellsWrongFalsely : Prop := sayTellsRow.holds Try.pinned (OpenSpec.ofChange sayTellsWrong)

/-- 'daybreaklaw08.SayOwn': WHATEVER THE INPUT: true; the input reads as it did. -/
def sayOwnSpec : ChangeSpec := { name := "sayOwn", fn := fun _ => fun
  | [d1, d2] => { results := [.lit (.bool true)], args := [d1, d2] }
  | _ => none }
def sayOwnRow : OpenClaim := { program := "ytlhhmkjhhiimlaa", sum := "b9182459e1baf8988f9dc82afafbd861a01b6e3893a5aaca74c597ca49f88c64", func := "daybreak/daybreaklaw08.SayOwn", spec := "sayOwn", apart := false }
def SayOwnSaid : Prop := sayOwnRow.holds Try.pinned (OpenSpec.ofChange sayOwnSpec)

/-- ITS FALSE NEIGHBOUR: 'it returns false'. Refute it at one input. -/
def sayOwnWrong : ChangeSpec := { name := "sayOwn", fn := fun _ => fun
  | [d1, d2] => { results := [.lit (.bool false)], args := [d1, d2] }
  | _ => none }
def SayOwnWrongFalsely : Prop := sayOwnRow.holds Try.pinned (OpenSpec.ofChange sayOwnWrong)

/-- 'daybreaklaw08.SaySooner': WHATEVER THE INPUT: true; the input reads as it did. -/
def saySoonerSpec : ChangeSpec := { name := "saySooner", fn := fun _ => fun
  | [d1, d2] => { results := [.lit (.bool true)], args := [d1, d2] }
  | _ => none }
def saySoonerRow : OpenClaim := { program := "ytlhhmkjhhiimlaa", sum := "b9182459e1baf8988f9dc82afafbd861a01b6e3893a5aaca74c597ca49f88c64", func := "daybreak/daybreaklaw08.SaySooner", spec := "saySooner", apart := false }
def SaySoonerSaid : Prop := saySoonerRow.holds Try.pinned (OpenSpec.ofChange saySoonerSpec)

/-- ITS FALSE NEIGHBOUR: 'it returns false'. Refute it at one input. -/
def saySoonerWrong : ChangeSpec := { name := "saySooner", fn := fun _ => fun
  | [d1, d2] => { results := [.lit (.bool false)], args := [d1, d2] }
  | _ => none }
def SaySoonerWrongFalsely : Prop := saySoonerRow.holds Try.pinned (OpenSpec.ofChange saySoonerWrong)

/- THE SECOND FORM. 'bulk': how many values and letters a reading holds, each counted each time it is reached (what is shared counts as often as it is met; a slice's spare places count too). A statement '..UptoSaid' is the law's where the arguments, and the package variables that the reading takes, are together of bulk at most 1048576: NARROWER than '..Said'. Prove '..Said' where nothing that the law and all that it calls make is longer than what came in: it says more and counts as full. Else prove '..UptoSaid'. A law counts once. -/
mutual
def uptoBulk {H : Type} : DataW H → Nat
  | .lit (.string bytes) => bytes.length + 1
  | .lit _ => 1
  | .nil => 1
  | .ptr d => uptoBulk d + 1
  | .slice elems spare => uptoBulkAll elems + uptoBulkAll spare + 1
  | .agg parts => uptoBulkAll parts + 1
  | .iface _ d => uptoBulk d + 1
  | .map entries => uptoBulkEntries entries + 1
  | .held _ => 1
def uptoBulkAll {H : Type} : List (DataW H) → Nat
  | [] => 0
  | d :: r => uptoBulk d + uptoBulkAll r
def uptoBulkEntries {H : Type} : List (Lit × DataW H) → Nat
  | [] => 0
  | x :: r => uptoBulkEntry x + uptoBulkEntries r
def uptoBulkEntry {H : Type} : Lit × DataW H → Nat
  | (.string bytes, d) => bytes.length + uptoBulk d + 1
  | (_, d) => uptoBulk d + 1
 end
def uptoSmall : (H : Type) → List (DataW H) → Bool := fun _ ds => decide (uptoBulkAll ds ≤ 1048576)
def OpenSpec.upto (s : _root_.Go.ChangeSpec) : _root_.Go.OpenSpec := { _root_.Go.OpenSpec.ofChange s with cond := some uptoSmall }

/-- 'daybreaklaw08.SayTells', WHERE WHAT IT READS IS OF BULK AT MOST 1048576: true; the input reads as it did. -/
def sayTellsUptoRow : OpenClaim := { program := "ytlhhmkjhhiimlaa", sum := "b9182459e1baf8988f9dc82afafbd861a01b6e3893a5aaca74c597ca49f88c64", func := "daybreak/daybreaklaw08.SayTells", spec := "sayTells", apart := false, narrowed := true }
def SayTellsUptoSaid : Prop := sayTellsUptoRow.holds Try.pinned (OpenSpec.upto sayTellsSpec)

/-- 'daybreaklaw08.SayOwn', WHERE WHAT IT READS IS OF BULK AT MOST 1048576: true; the input reads as it did. -/
def sayOwnUptoRow : OpenClaim := { program := "ytlhhmkjhhiimlaa", sum := "b9182459e1baf8988f9dc82afafbd861a01b6e3893a5aaca74c597ca49f88c64", func := "daybreak/daybreaklaw08.SayOwn", spec := "sayOwn", apart := false, narrowed := true }
def SayOwnUptoSaid : Prop := sayOwnUptoRow.holds Try.pinned (OpenSpec.upto sayOwnSpec)

/-- 'daybreaklaw08.SaySooner', WHERE WHAT IT READS IS OF BULK AT MOST 1048576: true; the input reads as it did. -/
def saySoonerUptoRow : OpenClaim := { program := "ytlhhmkjhhiimlaa", sum := "b9182459e1baf8988f9dc82afafbd861a01b6e3893a5aaca74c597ca49f88c64", func := "daybreak/daybreaklaw08.SaySooner", spec := "saySooner", apart := false, narrowed := true }
def SaySoonerUptoSaid : Prop := saySoonerUptoRow.holds Try.pinned (OpenSpec.upto saySoonerSpec)

end Rows
end Go.Proofs.Ytlhhmkjhhiimlaa
