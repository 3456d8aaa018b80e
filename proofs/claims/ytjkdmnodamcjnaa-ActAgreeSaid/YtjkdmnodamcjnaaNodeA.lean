
import Derived.Test.YtjkdmnodamcjnaaRows
import Derived.Test.YtjkdmnodamcjnaaNode0
import Derived.Test.YtjkdmnodamcjnaaKit
import Derived.Test.YtjkdmnodamcjnaaConfA
import Derived.Test.YtjkdmnodamcjnaaTallyA
import Derived.Test.YtjkdmnodamcjnaaRingA
namespace Go.Proofs.Ytjkdmnodamcjnaa
set_option linter.unusedVariables false
set_option linter.unusedSimpArgs false
open Go.ChangeShapes Go.WideShapes Go.RowKit

theorem nplace_any (n i : Int) (w : World) :
    Calls Try.prog 35 #[.int .i64 n, .int .i64 i] w fun e w' => e = .returned (.int .i64 (Conf.err n i)) ∧ w = w' := by
  by_cases h : Conf.right n = true
  all_goals
    go_enter Try.func35, Try.ntmps35
    go_wp2_with fail
    refine (cright_any _ _).mono ?_; rintro e w' ⟨rfl, rfl⟩
    go_wp2
    all_goals
      go_ret
      exact ⟨ret_int (by simp only [Conf.err] <;> (repeat split) <;> simp_all <;> omega), rfl⟩
theorem ncounts_any (c : Int) (w : World) :
    Calls Try.prog 36 #[.int .i64 c] w fun e w' => e = .returned (.bool (decide (0 ≤ c ∧ c ≤ 1073741824))) ∧ w = w' := by
  go_enter Try.func36, Try.ntmps36
  go_wp2
  all_goals
    go_ret
    exact ⟨ret_bool (by simp [*] <;> omega), rfl⟩
theorem nright_out (n i m c p : Int) (h : ¬ (3 ≤ n ∧ n ≤ 8 ∧ 0 ≤ i ∧ i < n)) (w : World) :
    Calls Try.prog 24 #[.int .i64 n, .agg #[.int .i64 i, .int .i64 m, .int .i64 c, .int .i64 p]] w fun e w' => e = .returned (.bool (Node.right n i m c p)) ∧ Below w.heap.size w w' := by
  have E : (Conf.err n i != 0) = true := by
    have := Node.err_zero n i
    simp only [bne_iff_ne, ne_eq]; omega
  go_enter Try.func24, Try.ntmps24
  go_wp2_with fail
  refine (nplace_any _ _ _).mono ?_; rintro e w' ⟨rfl, rfl⟩
  go_wp2
  go_ret
  exact ⟨ret_bool (by simp [Node.right] <;> omega), bel⟩
theorem nright_0 (n i c p : Int) (h : 3 ≤ n ∧ n ≤ 8 ∧ 0 ≤ i ∧ i < n) (w : World) :
    Calls Try.prog 24 #[.int .i64 n, .agg #[.int .i64 i, .int .i64 0, .int .i64 c, .int .i64 p]] w fun e w' => e = .returned (.bool (Node.right n i 0 c p)) ∧ Below w.heap.size w w' := by
  have E := Conf.err_yes (n := n) (i := i) (Conf.right_spec.2 (by omega)) (by omega)
  go_enter Try.func24, Try.ntmps24
  go_wp2_with fail
  refine (nplace_any _ _ _).mono ?_; rintro e w' ⟨rfl, rfl⟩
  rw [E]
  go_wp2
  all_goals
    go_ret
    exact ⟨ret_bool (by rw [Bool.eq_iff_iff]; simp_all [Node.right] <;> omega), bel⟩
theorem nright_12 (n i m c p : Int) (h : 3 ≤ n ∧ n ≤ 8 ∧ 0 ≤ i ∧ i < n) (hm : m = 1 ∨ m = 2) (w : World) :
    Calls Try.prog 24 #[.int .i64 n, .agg #[.int .i64 i, .int .i64 m, .int .i64 c, .int .i64 p]] w fun e w' => e = .returned (.bool (Node.right n i m c p)) ∧ Below w.heap.size w w' := by
  have E := Conf.err_yes (n := n) (i := i) (Conf.right_spec.2 (by omega)) (by omega)
  by_cases hc : 0 ≤ c ∧ c ≤ 1073741824
  all_goals
    rcases hm with rfl | rfl
    all_goals
      go_enter Try.func24, Try.ntmps24
      go_wp2_with fail
      refine (nplace_any _ _ _).mono ?_; rintro e w' ⟨rfl, rfl⟩
      rw [E]
      go_wp2_with fail
      refine (ncounts_any _ _).mono ?_; rintro e w' ⟨rfl, rfl⟩
      go_wp2
      all_goals
        go_ret
        exact ⟨ret_bool (by rw [Bool.eq_iff_iff]; simp_all [Node.right] <;> omega), bel⟩
theorem nright_3 (n i c p : Int) (h : 3 ≤ n ∧ n ≤ 8 ∧ 0 ≤ i ∧ i < n) (w : World) :
    Calls Try.prog 24 #[.int .i64 n, .agg #[.int .i64 i, .int .i64 3, .int .i64 c, .int .i64 p]] w fun e w' => e = .returned (.bool (Node.right n i 3 c p)) ∧ Below w.heap.size w w' := by
  have E := Conf.err_yes (n := n) (i := i) (Conf.right_spec.2 (by omega)) (by omega)
  by_cases hc : 0 ≤ c ∧ c ≤ 1073741824
  all_goals
    go_enter Try.func24, Try.ntmps24
    go_wp2_with fail
    refine (nplace_any _ _ _).mono ?_; rintro e w' ⟨rfl, rfl⟩
    rw [E]
    go_wp2_with fail
    refine (ncounts_any _ _).mono ?_; rintro e w' ⟨rfl, rfl⟩
    go_wp2
    all_goals
      go_ret
      exact ⟨ret_bool (by rw [Bool.eq_iff_iff]; simp_all [Node.right] <;> omega), bel⟩
theorem nright_no (n i m c p : Int) (h : 3 ≤ n ∧ n ≤ 8 ∧ 0 ≤ i ∧ i < n) (h0 : ¬ (0 ≤ m ∧ m ≤ 3)) (w : World) :
    Calls Try.prog 24 #[.int .i64 n, .agg #[.int .i64 i, .int .i64 m, .int .i64 c, .int .i64 p]] w fun e w' => e = .returned (.bool (Node.right n i m c p)) ∧ Below w.heap.size w w' := by
  have E := Conf.err_yes (n := n) (i := i) (Conf.right_spec.2 (by omega)) (by omega)
  have m0 : (m == 0) = false := by simp; omega
  have m1 : (m == 1) = false := by simp; omega
  have m2 : (m == 2) = false := by simp; omega
  have m3 : (m == 3) = false := by simp; omega
  go_enter Try.func24, Try.ntmps24
  go_wp2_with fail
  refine (nplace_any _ _ _).mono ?_; rintro e w' ⟨rfl, rfl⟩
  rw [E]
  go_wp2
  go_ret
  exact ⟨ret_bool (by rw [Bool.eq_iff_iff]; simp_all [Node.right] <;> omega), bel⟩
theorem nright_any (n i m c p : Int) (w : World) :
    Calls Try.prog 24 #[.int .i64 n, .agg #[.int .i64 i, .int .i64 m, .int .i64 c, .int .i64 p]] w fun e w' => e = .returned (.bool (Node.right n i m c p)) ∧ Below w.heap.size w w' := by
  by_cases h : 3 ≤ n ∧ n ≤ 8 ∧ 0 ≤ i ∧ i < n
  · by_cases h1 : 0 ≤ m ∧ m ≤ 3
    · have h2 : m = 0 ∨ (m = 1 ∨ m = 2) ∨ m = 3 := by omega
      rcases h2 with rfl | h2 | rfl
      · exact nright_0 n i c p h w
      · exact nright_12 n i m c p h h2 w
      · exact nright_3 n i c p h w
    · exact nright_no n i m c p h h1 w
  · exact nright_out n i m c p h w
theorem refNright_any (n i m c p : Int) (w : World) :
    Calls Try.prog 13 #[.int .i64 n, .agg #[.int .i64 i, .int .i64 m, .int .i64 c, .int .i64 p]] w fun e w' => e = .returned (.bool (Node.right n i m c p)) ∧ Below w.heap.size w w' := by
  by_cases h : Conf.right n = true
  all_goals
    go_enter Try.func13, Try.ntmps13
    go_wp2_with fail
    refine (refCright_any _ _).mono ?_; rintro e w' ⟨rfl, rfl⟩
    first | rw [h] | rw [show Conf.right n = false from Bool.eq_false_iff.2 h]
    go_wp2
    all_goals
      go_ret
      exact ⟨ret_bool (by rw [Bool.eq_iff_iff]; simp_all [Node.right, Conf.right] <;> omega), bel⟩
end Go.Proofs.Ytjkdmnodamcjnaa
