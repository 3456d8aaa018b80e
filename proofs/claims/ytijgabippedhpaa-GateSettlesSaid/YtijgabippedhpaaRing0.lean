/-
  Plain mathematics of slots in a round (no program in it).
-/
namespace Go.Proofs.Ytijgabippedhpaa.Ring
set_option linter.unusedVariables false
set_option linter.unusedSimpArgs false

theorem tmod_bounds (n x : Int) (h : 0 < n) : -n < Int.tmod x n ∧ Int.tmod x n < n := by
  have h1 := Int.tmod_lt_of_pos x h
  have h2 := Int.lt_tmod_of_pos x h
  exact ⟨h2, h1⟩
theorem tmod_neg (n x : Int) (h : 0 < n) (h1 : Int.tmod x n < 0) : Int.tmod x n + n = x % n := by
  have h2 := tmod_bounds n x h
  have h3 := Int.tmod_add_mul_tdiv x n
  have h4 : (Int.tmod x n + n) % n = x % n := by
    rw [Int.add_emod_right]
    conv => rhs; rw [← h3]
    rw [Int.add_mul_emod_self_left]
  rw [← h4, Int.emod_eq_of_lt (by omega) (by omega)]
theorem tmod_pos (n x : Int) (h : 0 < n) (h1 : 0 ≤ Int.tmod x n) : Int.tmod x n = x % n := by
  have h2 := tmod_bounds n x h
  have h3 := Int.tmod_add_mul_tdiv x n
  have h4 : Int.tmod x n % n = x % n := by
    conv => rhs; rw [← h3]
    rw [Int.add_mul_emod_self_left]
  rw [← h4, Int.emod_eq_of_lt (by omega) (by omega)]
theorem tmod_two (n x : Int) (h : 0 < n) : Int.tmod (Int.tmod x n + n) n = x % n := by
  have h2 := tmod_bounds n x h
  rw [Int.tmod_eq_emod_of_nonneg (by omega), Int.add_emod_right]
  have h3 := Int.tmod_add_mul_tdiv x n
  conv => rhs; rw [← h3]
  rw [Int.add_mul_emod_self_left]
end Go.Proofs.Ytijgabippedhpaa.Ring
