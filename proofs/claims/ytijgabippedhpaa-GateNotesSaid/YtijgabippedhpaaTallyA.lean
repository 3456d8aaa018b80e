
import Derived.Test.YtijgabippedhpaaRows
import Derived.Test.YtijgabippedhpaaTally0
import Derived.Test.YtijgabippedhpaaKit
import Derived.WalkKit
import Derived.WalkLawsBesides
import Derived.WalkSpells
import Derived.Outline
import Derived.Lib.Hide
namespace Go.Proofs.Ytijgabippedhpaa
set_option linter.unusedVariables false
set_option linter.unusedSimpArgs false
open Go.ChangeShapes Go.WideShapes Go.RowKit

theorem clamp_any (c l m : Int) (hc : -9223372036854775808 ≤ c ∧ c ≤ 9223372036854775807) (hl : -9223372036854775808 ≤ l ∧ l ≤ 9223372036854775807) (hm : -9223372036854775808 ≤ m ∧ m ≤ 9223372036854775807) (w : World) :
    Calls Try.prog 42 #[.int .i64 c, .int .i64 l, .int .i64 m] w fun e w' => e = .returned (.int .i64 (Tally.clamp c l m)) ∧ w = w' := by
  by_cases h : c < l
  all_goals
    go_enter Try.func42, Try.ntmps42
    go_wp2
    all_goals
      go_ret
      exact ⟨ret_int (by simp only [Tally.clamp] <;> (repeat split) <;> omega), rfl⟩
end Go.Proofs.Ytijgabippedhpaa
