
import Derived.Test.YtijgabippedhpaaVoteI
namespace Go.Proofs.Ytijgabippedhpaa
set_option linter.unusedVariables false
set_option linter.unusedSimpArgs false

/-- Twelve integers. -/
def mk12 (a0 a1 a2 a3 a4 a5 a6 a7 a8 a9 a10 a11 : Int) : Nat → Int
  | 0 => a0
  | 1 => a1
  | 2 => a2
  | 3 => a3
  | 4 => a4
  | 5 => a5
  | 6 => a6
  | 7 => a7
  | 8 => a8
  | 9 => a9
  | 10 => a10
  | 11 => a11
  | _ => 0
theorem mk12_bd (a0 : Int) (h0 : -9223372036854775808 ≤ a0 ∧ a0 ≤ 9223372036854775807) (a1 : Int) (h1 : -9223372036854775808 ≤ a1 ∧ a1 ≤ 9223372036854775807) (a2 : Int) (h2 : -9223372036854775808 ≤ a2 ∧ a2 ≤ 9223372036854775807) (a3 : Int) (h3 : -9223372036854775808 ≤ a3 ∧ a3 ≤ 9223372036854775807) (a4 : Int) (h4 : -9223372036854775808 ≤ a4 ∧ a4 ≤ 9223372036854775807) (a5 : Int) (h5 : -9223372036854775808 ≤ a5 ∧ a5 ≤ 9223372036854775807) (a6 : Int) (h6 : -9223372036854775808 ≤ a6 ∧ a6 ≤ 9223372036854775807) (a7 : Int) (h7 : -9223372036854775808 ≤ a7 ∧ a7 ≤ 9223372036854775807) (a8 : Int) (h8 : -9223372036854775808 ≤ a8 ∧ a8 ≤ 9223372036854775807) (a9 : Int) (h9 : -9223372036854775808 ≤ a9 ∧ a9 ≤ 9223372036854775807) (a10 : Int) (h10 : -9223372036854775808 ≤ a10 ∧ a10 ≤ 9223372036854775807) (a11 : Int) (h11 : -9223372036854775808 ≤ a11 ∧ a11 ≤ 9223372036854775807) : Bd12 (mk12 a0 a1 a2 a3 a4 a5 a6 a7 a8 a9 a10 a11) := by
  intro j hj
  rcases twelve hj with rfl | rfl | rfl | rfl | rfl | rfl | rfl | rfl | rfl | rfl | rfl | rfl <;> assumption
end Go.Proofs.Ytijgabippedhpaa
