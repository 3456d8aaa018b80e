
import Derived.Test.YtjkdmnodamcjnaaRows
import Derived.Test.YtjkdmnodamcjnaaRing0
import Derived.Test.YtjkdmnodamcjnaaKit
import Derived.WalkKit
import Derived.WalkLawsBesides
import Derived.WalkSpells
import Derived.Outline
import Derived.Lib.Hide
namespace Go.Proofs.Ytjkdmnodamcjnaa
set_option linter.unusedVariables false
set_option linter.unusedSimpArgs false
open Go.ChangeShapes Go.WideShapes Go.RowKit

theorem mod_any (n x : Int) (h1 : 1 ≤ n) (h2 : n ≤ 1000000) (w : World) :
    Calls Try.prog 57 #[.int .i64 n, .int .i64 x] w fun e w' => e = .returned (.int .i64 (x % n)) ∧ w = w' := by
  have hb := Ring.tmod_bounds n x (by omega)
  have hn := Lib.hid (Ring.tmod_neg n x (by omega))
  have hp := Lib.hid (Ring.tmod_pos n x (by omega))
  have hm : (n == 0) = false := by simp; omega
  generalize hr : Int.tmod x n = r at *
  generalize x % n = m at *
  go_enter Try.func57, Try.ntmps57
  go_wp2
  all_goals
    go_ret
    exact ⟨ret_int (by first | exact hn.out (by simp_all; done) | exact hn.out (by simp_all; omega) | exact hp.out (by simp_all; done) | exact hp.out (by simp_all; omega)), rfl⟩
theorem refMod_any (n x : Int) (h1 : 1 ≤ n) (h2 : n ≤ 1000000) (w : World) :
    Calls Try.prog 33 #[.int .i64 n, .int .i64 x] w fun e w' => e = .returned (.int .i64 (x % n)) ∧ w = w' := by
  have hb := Ring.tmod_bounds n x (by omega)
  have hp := Ring.tmod_two n x (by omega)
  rw [Int.tmod_eq_emod_of_nonneg (by omega)] at hp
  have hp := Lib.hid hp
  have hm : (n == 0) = false := by simp; omega
  generalize hr : Int.tmod x n = r at *
  go_enter Try.func33, Try.ntmps33
  go_wp2
  go_ret
  exact ⟨ret_int hp.out, rfl⟩
theorem next_any (n p : Int) (h1 : 1 ≤ n) (h2 : n ≤ 1000000) (p0 : 0 ≤ p) (p1 : p < n) (w : World) :
    Calls Try.prog 50 #[.int .i64 n, .int .i64 p] w fun e w' => e = .returned (.int .i64 ((p + 1) % n)) ∧ w = w' := by
  go_enter Try.func50, Try.ntmps50
  go_wp2_with fail
  refine (mod_any _ _ (by omega) (by omega) _).mono ?_; rintro e w' ⟨rfl, rfl⟩
  go_wp2
  go_ret
  exact ⟨rfl, rfl⟩
theorem refNext_any (n p : Int) (h1 : 1 ≤ n) (h2 : n ≤ 1000000) (p0 : 0 ≤ p) (p1 : p < n) (w : World) :
    Calls Try.prog 21 #[.int .i64 n, .int .i64 p] w fun e w' => e = .returned (.int .i64 ((p + 1) % n)) ∧ w = w' := by
  go_enter Try.func21, Try.ntmps21
  go_wp2_with fail
  refine (refMod_any _ _ (by omega) (by omega) _).mono ?_; rintro e w' ⟨rfl, rfl⟩
  go_wp2
  go_ret
  exact ⟨rfl, rfl⟩
theorem ahead_any (n a b : Int) (h1 : 1 ≤ n) (h2 : n ≤ 1000000) (a0 : 0 ≤ a) (a1 : a < n) (b0 : 0 ≤ b) (b1 : b < n) (w : World) :
    Calls Try.prog 40 #[.int .i64 n, .int .i64 a, .int .i64 b] w fun e w' => e = .returned (.int .i64 ((b - a) % n)) ∧ w = w' := by
  go_enter Try.func40, Try.ntmps40
  go_wp2_with fail
  refine (mod_any _ _ (by omega) (by omega) _).mono ?_; rintro e w' ⟨rfl, rfl⟩
  go_wp2
  go_ret
  exact ⟨rfl, rfl⟩
theorem refAhead_any (n a b : Int) (h1 : 1 ≤ n) (h2 : n ≤ 1000000) (a0 : 0 ≤ a) (a1 : a < n) (b0 : 0 ≤ b) (b1 : b < n) (w : World) :
    Calls Try.prog 54 #[.int .i64 n, .int .i64 a, .int .i64 b] w fun e w' => e = .returned (.int .i64 ((b - a) % n)) ∧ w = w' := by
  go_enter Try.func54, Try.ntmps54
  go_wp2_with fail
  refine (refMod_any _ _ (by omega) (by omega) _).mono ?_; rintro e w' ⟨rfl, rfl⟩
  go_wp2
  go_ret
  exact ⟨rfl, rfl⟩
end Go.Proofs.Ytjkdmnodamcjnaa
