
import Derived.Test.YtaienpbkinbmnaaRows
import Derived.Test.YtaienpbkinbmnaaRing0
import Derived.Test.YtaienpbkinbmnaaKit
import Derived.WalkKit
import Derived.WalkLawsBesides
import Derived.WalkSpells
import Derived.Outline
import Derived.Lib.Hide
namespace Go.Proofs.Ytaienpbkinbmnaa
set_option linter.unusedVariables false
open Go.ChangeShapes Go.WideShapes Go.RowKit

theorem mod_any (n x : Int) (h1 : 1 ≤ n) (h2 : n ≤ 1000000) (w : World) :
    Calls Try.prog 17 #[.int .i64 n, .int .i64 x] w fun e w' => e = .returned (.int .i64 (x % n)) ∧ w = w' := by
  have hb := Ring.tmod_bounds n x (by omega)
  have hn := Lib.hid (Ring.tmod_neg n x (by omega))
  have hp := Lib.hid (Ring.tmod_pos n x (by omega))
  have hm : (n == 0) = false := by simp; omega
  generalize hr : Int.tmod x n = r at *
  generalize x % n = m at *
  go_enter Try.func17, Try.ntmps17
  go_wp2
  all_goals
    go_ret
    exact ⟨ret_int (by first | exact hn.out (by simp_all; done) | exact hn.out (by simp_all; omega) | exact hp.out (by simp_all; done) | exact hp.out (by simp_all; omega)), rfl⟩
theorem refMod_any (n x : Int) (h1 : 1 ≤ n) (h2 : n ≤ 1000000) (w : World) :
    Calls Try.prog 19 #[.int .i64 n, .int .i64 x] w fun e w' => e = .returned (.int .i64 (x % n)) ∧ w = w' := by
  have hb := Ring.tmod_bounds n x (by omega)
  have hp := Ring.tmod_two n x (by omega)
  rw [Int.tmod_eq_emod_of_nonneg (by omega)] at hp
  have hp := Lib.hid hp
  have hm : (n == 0) = false := by simp; omega
  generalize hr : Int.tmod x n = r at *
  go_enter Try.func19, Try.ntmps19
  go_wp2
  go_ret
  exact ⟨ret_int hp.out, rfl⟩
end Go.Proofs.Ytaienpbkinbmnaa
