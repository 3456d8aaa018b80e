
import Derived.Test.YtkdlhafndbpaaaaRows
import Derived.Test.YtkdlhafndbpaaaaTally0
import Derived.Test.YtkdlhafndbpaaaaKit
import Derived.WalkKit
import Derived.WalkLawsBesides
import Derived.WalkSpells
import Derived.Outline
import Derived.Lib.Hide
namespace Go.Proofs.Ytkdlhafndbpaaaa
set_option linter.unusedVariables false
open Go.ChangeShapes Go.WideShapes Go.RowKit

theorem clamp_any (c l m : Int) (hc : -9223372036854775808 ≤ c ∧ c ≤ 9223372036854775807) (hl : -9223372036854775808 ≤ l ∧ l ≤ 9223372036854775807) (hm : -9223372036854775808 ≤ m ∧ m ≤ 9223372036854775807) (w : World) :
    Calls Try.prog 10 #[.int .i64 c, .int .i64 l, .int .i64 m] w fun e w' => e = .returned (.int .i64 (Tally.clamp c l m)) ∧ w = w' := by
  by_cases h : c < l
  all_goals
    go_enter Try.func10, Try.ntmps10
    go_wp2
    all_goals
      go_ret
      exact ⟨ret_int (by simp only [Tally.clamp] <;> (repeat split) <;> omega), rfl⟩
theorem refClamp_any (c l m : Int) (w : World) :
    Calls Try.prog 11 #[.int .i64 c, .int .i64 l, .int .i64 m] w fun e w' => e = .returned (.int .i64 (Tally.clamp c l m)) ∧ w = w' := by
  go_enter Try.func11, Try.ntmps11
  go_wp2
  all_goals
    go_ret
    exact ⟨ret_int (by simp only [Tally.clamp] <;> (repeat split) <;> omega), rfl⟩
theorem down_any (c : Int) (hc : -9223372036854775808 ≤ c ∧ c ≤ 9223372036854775807) (w : World) :
    Calls Try.prog 8 #[.int .i64 c] w fun e w' => e = .returned (.int .i64 (Tally.down c)) ∧ w = w' := by
  go_enter Try.func8, Try.ntmps8
  go_wp2
  all_goals
    go_ret
    exact ⟨ret_int (by simp only [Tally.down] <;> (repeat split) <;> omega), rfl⟩
theorem refDown_any (c : Int) (hc : -9223372036854775808 ≤ c ∧ c ≤ 9223372036854775807) (w : World) :
    Calls Try.prog 9 #[.int .i64 c] w fun e w' => e = .returned (.int .i64 (Tally.down c)) ∧ w = w' := by
  go_enter Try.func9, Try.ntmps9
  go_wp2
  all_goals
    go_ret
    exact ⟨ret_int (by simp only [Tally.down] <;> (repeat split) <;> omega), rfl⟩
theorem refUp_any (c m : Int) (hc : -9223372036854775808 ≤ c ∧ c ≤ 9223372036854775807) (hm : -9223372036854775808 ≤ m ∧ m ≤ 9223372036854775807) (w : World) :
    Calls Try.prog 7 #[.int .i64 c, .int .i64 m] w fun e w' => e = .returned (.int .i64 (Tally.up c m)) ∧ w = w' := by
  go_enter Try.func7, Try.ntmps7
  go_wp2
  all_goals
    go_ret
    exact ⟨ret_int (by simp only [Tally.up] <;> (repeat split) <;> omega), rfl⟩
theorem up_any (c m : Int) (hc : -9223372036854775808 ≤ c ∧ c ≤ 9223372036854775807) (hm : -9223372036854775808 ≤ m ∧ m ≤ 9223372036854775807) (w : World) :
    Calls Try.prog 6 #[.int .i64 c, .int .i64 m] w fun e w' => e = .returned (.int .i64 (Tally.up c m)) ∧ w = w' := by
  have k0 : 0 ≤ Tally.clamp c 0 9223372036854775806 := by unfold Tally.clamp; (repeat split) <;> omega
  have k1 : Tally.clamp c 0 9223372036854775806 ≤ 9223372036854775806 := by unfold Tally.clamp; (repeat split) <;> omega
  have H := Lib.hid (show min (Tally.clamp c 0 9223372036854775806 + 1) m = Tally.up c m by unfold Tally.clamp Tally.up; (repeat split) <;> omega)
  go_enter Try.func6, Try.ntmps6
  go_wp2_with fail
  refine (clamp_any _ _ _ (by omega) (by omega) (by omega) _).mono ?_; rintro e w' ⟨rfl, rfl⟩
  generalize Tally.clamp c 0 9223372036854775806 = x at *
  have H2 := H.out
  go_wp2
  all_goals
    go_ret
    exact ⟨ret_int (by omega), rfl⟩
end Go.Proofs.Ytkdlhafndbpaaaa
