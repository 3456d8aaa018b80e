
import Derived.Test.YtjkdmnodamcjnaaConf0
import Derived.Test.YtjkdmnodamcjnaaTally0
/-
  Plain mathematics of nodes (no program in it).
-/
namespace Go.Proofs.Ytjkdmnodamcjnaa.Node
set_option linter.unusedVariables false
set_option linter.unusedSimpArgs false

/-- May a node be? -/
def right (n i m c p : Int) : Bool := decide (3 ≤ n ∧ n ≤ 8 ∧ 0 ≤ i ∧ i < n ∧ (m = 0 ∧ c = 0 ∧ p = 0 ∨ (m = 1 ∨ m = 2) ∧ 0 ≤ c ∧ c ≤ 1073741824 ∧ p = 0 ∨ m = 3 ∧ 0 ≤ c ∧ c ≤ 1073741824 ∧ 0 ≤ p ∧ p < n))
theorem err_zero (n i : Int) : Conf.err n i = 0 ↔ 3 ≤ n ∧ n ≤ 8 ∧ 0 ≤ i ∧ i < n := by
  by_cases h : Conf.right n = true
  · have h2 := Conf.right_spec.1 h
    by_cases hi : 0 ≤ i ∧ i < n
    · rw [Conf.err_yes h hi]; simp; omega
    · rw [Conf.err_none h hi]; simp; omega
  · have h2 : ¬ (3 ≤ n ∧ n ≤ 8) := fun e => h (Conf.right_spec.2 e)
    rw [Conf.err_no (by simpa using h)]; simp; omega
def mode (m : Int) : Int := if 1 ≤ m ∧ m ≤ 3 then m else 1
def pos (n m p : Int) : Int := if m = 3 then p % n else 0
def count (c : Int) : Int := Tally.clamp c 0 1073741824
theorem right_clean (n i m c p : Int) (h : Conf.right n = true) (hi : 0 ≤ i ∧ i < n) : right n i (mode m) (count c) (pos n m p) = true := by
  have hn := Conf.right_spec.1 h
  have p0 := Int.emod_nonneg p (b := n) (by omega)
  have p1 := Int.emod_lt_of_pos p (b := n) (by omega)
  unfold right mode count pos Tally.clamp
  simp only [decide_eq_true_eq]
  (repeat split) <;> omega
theorem mode_mode (m : Int) : mode (mode m) = mode m := by unfold mode; (repeat split) <;> omega
theorem count_count (c : Int) : count (count c) = count c := by unfold count Tally.clamp; (repeat split) <;> omega
theorem pos_pos (n m p : Int) (h : Conf.right n = true) : pos n (mode m) (pos n m p) = pos n m p := by
  have hn := Conf.right_spec.1 h
  have p0 := Int.emod_nonneg p (b := n) (by omega)
  have p1 := Int.emod_lt_of_pos p (b := n) (by omega)
  unfold pos mode
  by_cases e : m = 3
  · rw [if_pos e, if_pos (by rw [if_pos (by omega)]; exact e), Int.emod_eq_of_lt p0 p1]
  · rw [if_neg e]
    split
    · simp
    · rfl
theorem clean_right (n i m c p : Int) (h : right n i m c p = true) (hm : m ≠ 0) : mode m = m ∧ count c = c ∧ pos n m p = p := by
  unfold right at h
  simp only [decide_eq_true_eq] at h
  refine ⟨by unfold mode; split <;> omega, by unfold count Tally.clamp; (repeat split) <;> omega, ?_⟩
  unfold pos
  split
  · exact Int.emod_eq_of_lt (by omega) (by omega)
  · omega
end Go.Proofs.Ytjkdmnodamcjnaa.Node
