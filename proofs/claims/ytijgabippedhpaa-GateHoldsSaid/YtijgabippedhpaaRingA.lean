
import Derived.Test.YtijgabippedhpaaRows
import Derived.Test.YtijgabippedhpaaRing0
import Derived.Test.YtijgabippedhpaaKit
import Derived.WalkKit
import Derived.WalkLawsBesides
import Derived.WalkSpells
import Derived.Outline
import Derived.Lib.Hide
namespace Go.Proofs.Ytijgabippedhpaa
set_option linter.unusedVariables false
set_option linter.unusedSimpArgs false
open Go.ChangeShapes Go.WideShapes Go.RowKit

theorem mod_any (n x : Int) (h1 : 1 ≤ n) (h2 : n ≤ 1000000) (w : World) :
    Calls Try.prog 43 #[.int .i64 n, .int .i64 x] w fun e w' => e = .returned (.int .i64 (x % n)) ∧ w = w' := by
  have hb := Ring.tmod_bounds n x (by omega)
  have hn := Lib.hid (Ring.tmod_neg n x (by omega))
  have hp := Lib.hid (Ring.tmod_pos n x (by omega))
  have hm : (n == 0) = false := by simp; omega
  generalize hr : Int.tmod x n = r at *
  generalize x % n = m at *
  go_enter Try.func43, Try.ntmps43
  go_wp2
  all_goals
    go_ret
    exact ⟨ret_int (by first | exact hn.out (by simp_all; done) | exact hn.out (by simp_all; omega) | exact hp.out (by simp_all; done) | exact hp.out (by simp_all; omega)), rfl⟩
theorem refMod_any (n x : Int) (h1 : 1 ≤ n) (h2 : n ≤ 1000000) (w : World) :
    Calls Try.prog 47 #[.int .i64 n, .int .i64 x] w fun e w' => e = .returned (.int .i64 (x % n)) ∧ w = w' := by
  have hb := Ring.tmod_bounds n x (by omega)
  have hp := Ring.tmod_two n x (by omega)
  rw [Int.tmod_eq_emod_of_nonneg (by omega)] at hp
  have hp := Lib.hid hp
  have hm : (n == 0) = false := by simp; omega
  generalize hr : Int.tmod x n = r at *
  go_enter Try.func47, Try.ntmps47
  go_wp2
  go_ret
  exact ⟨ret_int hp.out, rfl⟩
theorem at_any (n p a : Int) (h1 : 1 ≤ n) (h2 : n ≤ 1000000) (p0 : 0 ≤ p) (p1 : p < n) (a0 : 0 ≤ a) (a1 : a ≤ 1099511627776) (w : World) :
    Calls Try.prog 48 #[.int .i64 n, .int .i64 p, .int .i64 a] w fun e w' => e = .returned (.int .i64 ((p + a) % n)) ∧ w = w' := by
  go_enter Try.func48, Try.ntmps48
  go_wp2_with fail
  refine (mod_any _ _ (by omega) (by omega) _).mono ?_; rintro e w' ⟨rfl, rfl⟩
  go_wp2
  go_ret
  exact ⟨rfl, rfl⟩
theorem refAt_any (n p a : Int) (h1 : 1 ≤ n) (h2 : n ≤ 1000000) (p0 : 0 ≤ p) (p1 : p < n) (a0 : 0 ≤ a) (a1 : a ≤ 1099511627776) (w : World) :
    Calls Try.prog 40 #[.int .i64 n, .int .i64 p, .int .i64 a] w fun e w' => e = .returned (.int .i64 ((p + a) % n)) ∧ w = w' := by
  go_enter Try.func40, Try.ntmps40
  go_wp2_with fail
  refine (refMod_any _ _ (by omega) (by omega) _).mono ?_; rintro e w' ⟨rfl, rfl⟩
  go_wp2
  go_ret
  exact ⟨rfl, rfl⟩
end Go.Proofs.Ytijgabippedhpaa
