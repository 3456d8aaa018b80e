/-
  No cell of these rows narrows 'for every input' (looked for: loops, veiled, ifaces, maps, wideKeys, modest, calm, conditions, laid).
  DERIVED. THE GIVEN ROWS OF THIS SEAT. 3 by the template 'for every input the law returns true; each argument reads behind the call as it read before'; 0 by the template 'total and deterministic' (their statements: YtnohgfolejookaaTotals.lean).
  GIVEN WITH THE SEED: the statements are not yours to turn. If you find one false, say at which input.
  Laid BY PROGRAM, IN A SANDBOX (cutbox-rows.mjs): the forced cells as the released guide's own fill.sh prints them over the translation fb496f5fb8082a2f… (all of the seat's roots in one cut). By AI agents, Wed Nov 11 2026. No macro, syntax, notation, axiom, sorry.
-/
import Derived.Test.YtnohgfolejookaaChecked
import GoSem.Claim
import GoSem.ClaimJoined
import GoSem.ClaimMapViews
import Derived.JoinedTies
import Derived.KernelRfl
namespace Go.Proofs.Ytnohgfolejookaa
/- THE CELL 'sum', in the pinned program and in every row, IS THE sha256 OF THE DUMP (.gsa) THAT YtnohgfolejookaaProg.lean LOADS. Nothing in Lean hashes anything: it is a label: what it is worth is what the hold of that sum in a sandbox is worth. -/
noncomputable def Try.pinned : Pinned := { name := "ytnohgfolejookaa", sum := "fb496f5fb8082a2fcc321755816d554febe95ba541f7ce841396376134ad4336", checked := Try.checked }
namespace Rows
def none {H : Type} : Left H := { results := [], args := [] }

/-- 'daybreaklaw11.VoteTells': WHATEVER THE INPUT: true; the input reads as it did. -/
def voteTellsSpec : ChangeSpec := { name := "voteTells", fn := fun _ => fun
  | [d1, d2, d3] => { results := [.lit (.bool true)], args := [d1, d2, d3] }
  | _ => none }
def voteTellsRow : OpenClaim := { program := "ytnohgfolejookaa", sum := "fb496f5fb8082a2fcc321755816d554febe95ba541f7ce841396376134ad4336", func := "daybreak/daybreaklaw11.VoteTells", spec := "voteTells", apart := false }
def VoteTellsSaid : Prop := voteTellsRow.holds Try.pinned (OpenSpec.ofChange voteTellsSpec)

/-- ITS FALSE NEIGHBOUR: 'it returns false'. Refute it at one input. -/
def voteTellsWrong : ChangeSpec := { name := "voteTells", fn := fun _ => fun
  | [d1, d2, d3] => { results := [.lit (.bool false)], args := [d1, d2, d3] }
  | _ => none }
def VoteTellsWrongFalsely : Prop := voteTellsRow.holds Try.pinned (OpenSpec.ofChange voteTellsWrong)

/-- 'daybreaklaw11.VoteFew': WHATEVER THE INPUT: true; the input reads as it did. -/
def voteFewSpec : ChangeSpec := { name := "voteFew", fn := fun _ => fun
  | [d1, d2] => { results := [.lit (.bool true)], args := [d1, d2] }
  | _ => none }
def voteFewRow : OpenClaim := { program := "ytnohgfolejookaa", sum := "fb496f5fb8082a2fcc321755816d554febe95ba541f7ce841396376134ad4336", func := "daybreak/daybreaklaw11.VoteFew", spec := "voteFew", apart := false }
def VoteFewSaid : Prop := voteFewRow.holds Try.pinned (OpenSpec.ofChange voteFewSpec)

/-- ITS FALSE NEIGHBOUR: 'it returns false'. Refute it at one input. -/
def voteFewWrong : ChangeSpec := { name := "voteFew", fn := fun _ => fun
  | [d1, d2] => { results := [.lit (.bool false)], args := [d1, d2] }
  | _ => none }
def VoteFewWrongFalsely : Prop := voteFewRow.holds Try.pinned (OpenSpec.ofChange voteFewWrong)

/-- 'daybreaklaw11.VoteEnds': WHATEVER THE INPUT: true; the input reads as it did. -/
def voteEndsSpec : ChangeSpec := { name := "voteEnds", fn := fun _ => fun
  | [d1, d2] => { results := [.lit (.bool true)], args := [d1, d2] }
  | _ => none }
def voteEndsRow : OpenClaim := { program := "ytnohgfolejookaa", sum := "fb496f5fb8082a2fcc321755816d554febe95ba541f7ce841396376134ad4336", func := "daybreak/daybreaklaw11.VoteEnds", spec := "voteEnds", apart := false }
def VoteEndsSaid : Prop := voteEndsRow.holds Try.pinned (OpenSpec.ofChange voteEndsSpec)

/-- ITS FALSE NEIGHBOUR: 'it returns false'. Refute it at one input. -/
def voteEndsWrong : ChangeSpec := { name := "voteEnds", fn := fun _ => fun
  | [d1, d2] => { results := [.lit (.bool false)], args := [d1, d2] }
  | _ => none }
def VoteEndsWrongFalsely : Prop := voteEndsRow.holds Try.pinned (OpenSpec.ofChange voteEndsWrong)

/- THE SECOND FORM. 'bulk': how many values and letters a reading holds, each counted each time it is reached (what is shared counts as often as it is met; a slice's spare places count too). A statement '..UptoSaid' is the law's where the arguments, and the package variables that the reading takes, are together of bulk at most 1048576: NARROWER than '..Said'. Prove '..Said' where nothing that the law and all that it calls make is longer than what came in: it says more and counts as full. Else prove '..UptoSaid'. A law counts once. -/
mutual
def uptoBulk {H : Type} : DataW H → Nat
  | .lit (.string bytes) => bytes.length + 1
  | .lit _ => 1
  | .nil => 1
  | .ptr d => uptoBulk d + 1
  | .slice elems spare => uptoBulkAll elems + uptoBulkAll spare + 1
  | .agg parts => uptoBulkAll parts + 1
  | .iface _ d => uptoBulk d + 1
  | .map entries => uptoBulkEntries entries + 1
  | .held _ => 1
def uptoBulkAll {H : Type} : List (DataW H) → Nat
  | [] => 0
  | d :: r => uptoBulk d + uptoBulkAll r
def uptoBulkEntries {H : Type} : List (Lit × DataW H) → Nat
  | [] => 0
  | x :: r => uptoBulkEntry x + uptoBulkEntries r
def uptoBulkEntry {H : Type} : Lit × DataW H → Nat
  | (.string bytes, d) => bytes.length + uptoBulk d + 1
  | (_, d) => uptoBulk d + 1
 end
def uptoSmall : (H : Type) → List (DataW H) → Bool := fun _ ds => decide (uptoBulkAll ds ≤ 1048576)
def OpenSpec.upto (s : _root_.Go.ChangeSpec) : _root_.Go.OpenSpec := { _root_.Go.OpenSpec.ofChange s with cond := some uptoSmall }

/-- 'daybreaklaw11.VoteTells', WHERE WHAT IT READS IS OF BULK AT MOST 1048576: true; the input reads as it did. -/
def voteTellsUptoRow : OpenClaim := { program := "ytnohgfolejookaa", sum := "fb496f5fb8082a2fcc321755816d554febe95ba541f7ce841396376134ad4336", func := "daybreak/daybreaklaw11.VoteTells", spec := "voteTells", apart := false, narrowed := true }
def VoteTellsUptoSaid : Prop := voteTellsUptoRow.holds Try.pinned (OpenSpec.upto voteTellsSpec)

/-- 'daybreaklaw11.VoteFew', WHERE WHAT IT READS IS OF BULK AT MOST 1048576: true; the input reads as it did. -/
def voteFewUptoRow : OpenClaim := { program := "ytnohgfolejookaa", sum := "fb496f5fb8082a2fcc321755816d554febe95ba541f7ce841396376134ad4336", func := "daybreak/daybreaklaw11.VoteFew", spec := "voteFew", apart := false, narrowed := true }
def VoteFewUptoSaid : Prop := voteFewUptoRow.holds Try.pinned (OpenSpec.upto voteFewSpec)

/-- 'daybreaklaw11.VoteEnds', WHERE WHAT IT READS IS OF BULK AT MOST 1048576: true; the input reads as it did. -/
def voteEndsUptoRow : OpenClaim := { program := "ytnohgfolejookaa", sum := "fb496f5fb8082a2fcc321755816d554febe95ba541f7ce841396376134ad4336", func := "daybreak/daybreaklaw11.VoteEnds", spec := "voteEnds", apart := false, narrowed := true }
def VoteEndsUptoSaid : Prop := voteEndsUptoRow.holds Try.pinned (OpenSpec.upto voteEndsSpec)

end Rows
end Go.Proofs.Ytnohgfolejookaa
