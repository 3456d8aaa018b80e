/-
  No cell of these rows narrows 'for every input' (looked for: loops, veiled, ifaces, maps, wideKeys, modest, calm, conditions, laid).
  DERIVED. THE GIVEN ROWS OF THIS SEAT. 4 by the template 'for every input the law returns true; each argument reads behind the call as it read before'; 0 by the template 'total and deterministic' (their statements: YtjkdmnodamcjnaaTotals.lean).
  GIVEN WITH THE SEED: the statements are not yours to turn. If you find one false, say at which input.
  Laid BY PROGRAM, IN A SANDBOX (cutbox-rows.mjs): the forced cells as the released guide's own fill.sh prints them over the translation f9e31e62928c1b0a… (all of the seat's roots in one cut). By AI agents, Wed Nov 11 2026. No macro, syntax, notation, axiom, sorry.
-/
import Derived.Test.YtjkdmnodamcjnaaChecked
import GoSem.Claim
import GoSem.ClaimJoined
import GoSem.ClaimMapViews
import Derived.JoinedTies
import Derived.KernelRfl
namespace Go.Proofs.Ytjkdmnodamcjnaa
/- THE CELL 'sum', in the pinned program and in every row, IS THE sha256 OF THE DUMP (.gsa) THAT YtjkdmnodamcjnaaProg.lean LOADS. Nothing in Lean hashes anything: it is a label: what it is worth is what the hold of that sum in a sandbox is worth. -/
noncomputable def Try.pinned : Pinned := { name := "ytjkdmnodamcjnaa", sum := "f9e31e62928c1b0a887aa3550955f443570cbbb7b469c0d74c87d2c034f68440", checked := Try.checked }
namespace Rows
def none {H : Type} : Left H := { results := [], args := [] }

/-- 'daybreaklaw09.ActTells': WHATEVER THE INPUT: true; the input reads as it did. -/
def actTellsSpec : ChangeSpec := { name := "actTells", fn := fun _ => fun
  | [d] => { results := [.lit (.bool true)], args := [d] }
  | _ => none }
def actTellsRow : OpenClaim := { program := "ytjkdmnodamcjnaa", sum := "f9e31e62928c1b0a887aa3550955f443570cbbb7b469c0d74c87d2c034f68440", func := "daybreak/daybreaklaw09.ActTells", spec := "actTells", unfollowed := true, recurses := true, apart := false }
def ActTellsSaid : Prop := actTellsRow.holds Try.pinned (OpenSpec.ofChange actTellsSpec)

/-- ITS FALSE NEIGHBOUR: 'it returns false'. Refute it at one input. -/
def actTellsWrong : ChangeSpec := { name := "actTells", fn := fun _ => fun
  | [d] => { results := [.lit (.bool false)], args := [d] }
  | _ => none }
def ActTellsWrongFalsely : Prop := actTellsRow.holds Try.pinned (OpenSpec.ofChange actTellsWrong)

/-- 'daybreaklaw09.ActRight': WHATEVER THE INPUT: true; the input reads as it did. -/
def actRightSpec : ChangeSpec := { name := "actRight", fn := fun _ => fun
  | [d1, d2, d3] => { results := [.lit (.bool true)], args := [d1, d2, d3] }
  | _ => none }
def actRightRow : OpenClaim := { program := "ytjkdmnodamcjnaa", sum := "f9e31e62928c1b0a887aa3550955f443570cbbb7b469c0d74c87d2c034f68440", func := "daybreak/daybreaklaw09.ActRight", spec := "actRight", unfollowed := true, recurses := true, apart := false }
def ActRightSaid : Prop := actRightRow.holds Try.pinned (OpenSpec.ofChange actRightSpec)

/-- ITS FALSE NEIGHBOUR: 'it returns false'. Refute it at one input. -/
def actRightWrong : ChangeSpec := { name := "actRight", fn := fun _ => fun
  | [d1, d2, d3] => { results := [.lit (.bool false)], args := [d1, d2, d3] }
  | _ => none }
def ActRightWrongFalsely : Prop := actRightRow.holds Try.pinned (OpenSpec.ofChange actRightWrong)

/-- 'daybreaklaw09.ActQuiet': WHATEVER THE INPUT: true; the input reads as it did. -/
def actQuietSpec : ChangeSpec := { name := "actQuiet", fn := fun _ => fun
  | [d] => { results := [.lit (.bool true)], args := [d] }
  | _ => none }
def actQuietRow : OpenClaim := { program := "ytjkdmnodamcjnaa", sum := "f9e31e62928c1b0a887aa3550955f443570cbbb7b469c0d74c87d2c034f68440", func := "daybreak/daybreaklaw09.ActQuiet", spec := "actQuiet", unfollowed := true, recurses := true, apart := false }
def ActQuietSaid : Prop := actQuietRow.holds Try.pinned (OpenSpec.ofChange actQuietSpec)

/-- ITS FALSE NEIGHBOUR: 'it returns false'. Refute it at one input. -/
def actQuietWrong : ChangeSpec := { name := "actQuiet", fn := fun _ => fun
  | [d] => { results := [.lit (.bool false)], args := [d] }
  | _ => none }
def ActQuietWrongFalsely : Prop := actQuietRow.holds Try.pinned (OpenSpec.ofChange actQuietWrong)

/-- 'daybreaklaw09.ActAgree': WHATEVER THE INPUT: true; the input reads as it did. -/
def actAgreeSpec : ChangeSpec := { name := "actAgree", fn := fun _ => fun
  | [d] => { results := [.lit (.bool true)], args := [d] }
  | _ => none }
def actAgreeRow : OpenClaim := { program := "ytjkdmnodamcjnaa", sum := "f9e31e62928c1b0a887aa3550955f443570cbbb7b469c0d74c87d2c034f68440", func := "daybreak/daybreaklaw09.ActAgree", spec := "actAgree", unfollowed := true, recurses := true, apart := false }
def ActAgreeSaid : Prop := actAgreeRow.holds Try.pinned (OpenSpec.ofChange actAgreeSpec)

/-- ITS FALSE NEIGHBOUR: 'it returns false'. Refute it at one input. -/
def actAgreeWrong : ChangeSpec := { name := "actAgree", fn := fun _ => fun
  | [d] => { results := [.lit (.bool false)], args := [d] }
  | _ => none }
def ActAgreeWrongFalsely : Prop := actAgreeRow.holds Try.pinned (OpenSpec.ofChange actAgreeWrong)

/- THE SECOND FORM. 'bulk': how many values and letters a reading holds, each counted each time it is reached (what is shared counts as often as it is met; a slice's spare places count too). A statement '..UptoSaid' is the law's where the arguments, and the package variables that the reading takes, are together of bulk at most 1048576: NARROWER than '..Said'. Prove '..Said' where nothing that the law and all that it calls make is longer than what came in: it says more and counts as full. Else prove '..UptoSaid'. A law counts once. -/
mutual
def uptoBulk {H : Type} : DataW H → Nat
  | .lit (.string bytes) => bytes.length + 1
  | .lit _ => 1
  | .nil => 1
  | .ptr d => uptoBulk d + 1
  | .slice elems spare => uptoBulkAll elems + uptoBulkAll spare + 1
  | .agg parts => uptoBulkAll parts + 1
  | .iface _ d => uptoBulk d + 1
  | .map entries => uptoBulkEntries entries + 1
  | .held _ => 1
def uptoBulkAll {H : Type} : List (DataW H) → Nat
  | [] => 0
  | d :: r => uptoBulk d + uptoBulkAll r
def uptoBulkEntries {H : Type} : List (Lit × DataW H) → Nat
  | [] => 0
  | x :: r => uptoBulkEntry x + uptoBulkEntries r
def uptoBulkEntry {H : Type} : Lit × DataW H → Nat
  | (.string bytes, d) => bytes.length + uptoBulk d + 1
  | (_, d) => uptoBulk d + 1
 end
def uptoSmall : (H : Type) → List (DataW H) → Bool := fun _ ds => decide (uptoBulkAll ds ≤ 1048576)
def OpenSpec.upto (s : _root_.Go.ChangeSpec) : _root_.Go.OpenSpec := { _root_.Go.OpenSpec.ofChange s with cond := some uptoSmall }

/-- 'daybreaklaw09.ActTells', WHERE WHAT IT READS IS OF BULK AT MOST 1048576: true; the input reads as it did. -/
def actTellsUptoRow : OpenClaim := { program := "ytjkdmnodamcjnaa", sum := "f9e31e62928c1b0a887aa3550955f443570cbbb7b469c0d74c87d2c034f68440", func := "daybreak/daybreaklaw09.ActTells", spec := "actTells", unfollowed := true, recurses := true, apart := false, narrowed := true }
def ActTellsUptoSaid : Prop := actTellsUptoRow.holds Try.pinned (OpenSpec.upto actTellsSpec)

/-- 'daybreaklaw09.ActRight', WHERE WHAT IT READS IS OF BULK AT MOST 1048576: true; the input reads as it did. -/
def actRightUptoRow : OpenClaim := { program := "ytjkdmnodamcjnaa", sum := "f9e31e62928c1b0a887aa3550955f443570cbbb7b469c0d74c87d2c034f68440", func := "daybreak/daybreaklaw09.ActRight", spec := "actRight", unfollowed := true, recurses := true, apart := false, narrowed := true }
def ActRightUptoSaid : Prop := actRightUptoRow.holds Try.pinned (OpenSpec.upto actRightSpec)

/-- 'daybreaklaw09.ActQuiet', WHERE WHAT IT READS IS OF BULK AT MOST 1048576: true; the input reads as it did. -/
def actQuietUptoRow : OpenClaim := { program := "ytjkdmnodamcjnaa", sum := "f9e31e62928c1b0a887aa3550955f443570cbbb7b469c0d74c87d2c034f68440", func := "daybreak/daybreaklaw09.ActQuiet", spec := "actQuiet", unfollowed := true, recurses := true, apart := false, narrowed := true }
def ActQuietUptoSaid : Prop := actQuietUptoRow.holds Try.pinned (OpenSpec.upto actQuietSpec)

/-- 'daybreaklaw09.ActAgree', WHERE WHAT IT READS IS OF BULK AT MOST 1048576: true; the input reads as it did. -/
def actAgreeUptoRow : OpenClaim := { program := "ytjkdmnodamcjnaa", sum := "f9e31e62928c1b0a887aa3550955f443570cbbb7b469c0d74c87d2c034f68440", func := "daybreak/daybreaklaw09.ActAgree", spec := "actAgree", unfollowed := true, recurses := true, apart := false, narrowed := true }
def ActAgreeUptoSaid : Prop := actAgreeUptoRow.holds Try.pinned (OpenSpec.upto actAgreeSpec)

end Rows
end Go.Proofs.Ytjkdmnodamcjnaa
