
import Derived.Test.YtnohgfolejookaaRows
import Derived.Test.YtnohgfolejookaaTally0
import Derived.Test.YtnohgfolejookaaKit
import Derived.WalkKit
import Derived.WalkLawsBesides
import Derived.WalkSpells
import Derived.Outline
import Derived.Lib.Hide
namespace Go.Proofs.Ytnohgfolejookaa
set_option linter.unusedVariables false
set_option linter.unusedSimpArgs false
open Go.ChangeShapes Go.WideShapes Go.RowKit

theorem clamp_any (c l m : Int) (hc : -9223372036854775808 ≤ c ∧ c ≤ 9223372036854775807) (hl : -9223372036854775808 ≤ l ∧ l ≤ 9223372036854775807) (hm : -9223372036854775808 ≤ m ∧ m ≤ 9223372036854775807) (w : World) :
    Calls Try.prog 23 #[.int .i64 c, .int .i64 l, .int .i64 m] w fun e w' => e = .returned (.int .i64 (Tally.clamp c l m)) ∧ w = w' := by
  by_cases h : c < l
  all_goals
    go_enter Try.func23, Try.ntmps23
    go_wp2
    all_goals
      go_ret
      exact ⟨ret_int (by simp only [Tally.clamp] <;> (repeat split) <;> omega), rfl⟩
theorem refClamp_any (c l m : Int) (w : World) :
    Calls Try.prog 26 #[.int .i64 c, .int .i64 l, .int .i64 m] w fun e w' => e = .returned (.int .i64 (Tally.clamp c l m)) ∧ w = w' := by
  go_enter Try.func26, Try.ntmps26
  go_wp2
  all_goals
    go_ret
    exact ⟨ret_int (by simp only [Tally.clamp] <;> (repeat split) <;> omega), rfl⟩
theorem down_any (c : Int) (hc : -9223372036854775808 ≤ c ∧ c ≤ 9223372036854775807) (w : World) :
    Calls Try.prog 30 #[.int .i64 c] w fun e w' => e = .returned (.int .i64 (Tally.down c)) ∧ w = w' := by
  go_enter Try.func30, Try.ntmps30
  go_wp2
  all_goals
    go_ret
    exact ⟨ret_int (by simp only [Tally.down] <;> (repeat split) <;> omega), rfl⟩
theorem refDown_any (c : Int) (hc : -9223372036854775808 ≤ c ∧ c ≤ 9223372036854775807) (w : World) :
    Calls Try.prog 33 #[.int .i64 c] w fun e w' => e = .returned (.int .i64 (Tally.down c)) ∧ w = w' := by
  go_enter Try.func33, Try.ntmps33
  go_wp2
  all_goals
    go_ret
    exact ⟨ret_int (by simp only [Tally.down] <;> (repeat split) <;> omega), rfl⟩
theorem refUp_any (c m : Int) (hc : -9223372036854775808 ≤ c ∧ c ≤ 9223372036854775807) (hm : -9223372036854775808 ≤ m ∧ m ≤ 9223372036854775807) (w : World) :
    Calls Try.prog 32 #[.int .i64 c, .int .i64 m] w fun e w' => e = .returned (.int .i64 (Tally.up c m)) ∧ w = w' := by
  go_enter Try.func32, Try.ntmps32
  go_wp2
  all_goals
    go_ret
    exact ⟨ret_int (by simp only [Tally.up] <;> (repeat split) <;> omega), rfl⟩
theorem up_any (c m : Int) (hc : -9223372036854775808 ≤ c ∧ c ≤ 9223372036854775807) (hm : -9223372036854775808 ≤ m ∧ m ≤ 9223372036854775807) (w : World) :
    Calls Try.prog 29 #[.int .i64 c, .int .i64 m] w fun e w' => e = .returned (.int .i64 (Tally.up c m)) ∧ w = w' := by
  have k0 : 0 ≤ Tally.clamp c 0 9223372036854775806 := by unfold Tally.clamp; (repeat split) <;> omega
  have k1 : Tally.clamp c 0 9223372036854775806 ≤ 9223372036854775806 := by unfold Tally.clamp; (repeat split) <;> omega
  have H := Lib.hid (show min (Tally.clamp c 0 9223372036854775806 + 1) m = Tally.up c m by unfold Tally.clamp Tally.up; (repeat split) <;> omega)
  go_enter Try.func29, Try.ntmps29
  go_wp2_with fail
  refine (clamp_any _ _ _ (by omega) (by omega) (by omega) _).mono ?_; rintro e w' ⟨rfl, rfl⟩
  generalize Tally.clamp c 0 9223372036854775806 = x at *
  have H2 := H.out
  go_wp2
  all_goals
    go_ret
    exact ⟨ret_int (by omega), rfl⟩
end Go.Proofs.Ytnohgfolejookaa
