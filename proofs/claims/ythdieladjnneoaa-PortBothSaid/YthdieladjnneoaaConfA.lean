
import Derived.Test.YthdieladjnneoaaRows
import Derived.Test.YthdieladjnneoaaConf0
import Derived.Test.YthdieladjnneoaaKit
import Derived.WalkKit
import Derived.WalkLawsBesides
import Derived.WalkSpells
import Derived.Outline
import Derived.Lib.Hide
import Derived.Maps.Own
import Derived.StringKeys
import Derived.Maps.OwnOps
namespace Go.Proofs.Ythdieladjnneoaa
set_option linter.unusedVariables false
set_option linter.unusedSimpArgs false
open Go.ChangeShapes Go.WideShapes Go.RowKit
open Go.Maps Go.WideMaps

theorem strKey : Keyed Try.prog 9 := string_keyed Try.underlying9
theorem zeroInt (w : World) : (zeroValue 3).run Try.prog w = .ok (.int .i64 0) w := by kernel_rfl

theorem cright_any (n : Int) (w : World) :
    Calls Try.prog 15 #[.int .i64 n] w fun e w' => e = .returned (.bool (Conf.right n)) ∧ w = w' := by
  go_enter Try.func15, Try.ntmps15
  go_wp2
  all_goals
    go_ret
    exact ⟨ret_bool (by simp [Conf.right, *] <;> omega), rfl⟩
theorem refCright_any (n : Int) (w : World) :
    Calls Try.prog 17 #[.int .i64 n] w fun e w' => e = .returned (.bool (Conf.right n)) ∧ w = w' := by
  go_enter Try.func17, Try.ntmps17
  go_wp2
  all_goals
    go_ret
    exact ⟨ret_bool (by simp [Conf.right, *] <;> omega), rfl⟩
/-- The table of factors, as it reads. -/
def table : DataW Unit := (((((((DataW.map []).put (.string [66, 108, 111, 99, 107]) (.lit (.int .i64 2))).put (.string [87, 97, 116, 99, 104]) (.lit (.int .i64 8))).put (.string [76, 97, 116, 101, 114]) (.lit (.int .i64 3))).put (.string [83, 116, 97, 114, 116]) (.lit (.int .i64 40))).put (.string [83, 116, 97, 98, 108, 101]) (.lit (.int .i64 96))).put (.string [76, 105, 115, 116, 101, 110]) (.lit (.int .i64 4))).put (.string [67, 111, 108, 100]) (.lit (.int .i64 2))
theorem key_lit (a : Array UInt8) (h : a.size ≤ 100) : keyOf Try.prog 9 (.string ⟨a⟩) = some (.string a.toList) :=
  keyOf_string_mk Try.underlying9 (by unfold maxLen; show a.size ≤ _; omega)
theorem val_ok (v : Int) (h : (Lit.int .i64 v).wf = true) : plainElem (H := Unit) Try.prog 3 (.int .i64 v) = some (.lit (.int .i64 v), []) := plainElem_int Try.underlying3 h
end Go.Proofs.Ythdieladjnneoaa
