/-
  Plain mathematics of counters (no program in it).
-/
namespace Go.Proofs.Ytijgabippedhpaa.Tally
set_option linter.unusedVariables false
set_option linter.unusedSimpArgs false

def clamp (c l m : Int) : Int := if c < l then l else if m < c then m else c
def up (c m : Int) : Int := if m ≤ max c 0 then m else max c 0 + 1
def down (c : Int) : Int := if c ≤ 0 then 0 else c - 1
end Go.Proofs.Ytijgabippedhpaa.Tally
