/-
  Plain mathematics of the times (no program in it).
-/
namespace Go.Proofs.Ytijgabippedhpaa.Conf
set_option linter.unusedVariables false
set_option linter.unusedSimpArgs false

def right (n : Int) : Bool := decide (3 ≤ n) && decide (n ≤ 8)
theorem right_spec {n : Int} : right n = true ↔ 3 ≤ n ∧ n ≤ 8 := by
  unfold right; simp
theorem right_no {n : Int} (h : ¬ (3 ≤ n ∧ n ≤ 8)) : right n = false := by
  rw [Bool.eq_false_iff]; intro h2; exact h (right_spec.1 h2)
/-- So many rounds. -/
def tm (n f : Int) : Int := if right n = true then f * n else 0
/-- A node's own time, and its error. -/
def own (n i f : Int) : Int := if right n = true then (if 0 ≤ i ∧ i < n then f * n + 1 + i else 0) else 0
def err (n i : Int) : Int := if right n = true then (if 0 ≤ i ∧ i < n then 0 else 2) else 1
theorem tm_yes {n f : Int} (h : right n = true) : tm n f = f * n := by unfold tm; rw [if_pos h]
theorem tm_no {n f : Int} (h : right n = false) : tm n f = 0 := by unfold tm; rw [if_neg (by rw [h]; decide)]
theorem own_yes {n i f : Int} (h : right n = true) (hi : 0 ≤ i ∧ i < n) : own n i f = f * n + 1 + i := by unfold own; rw [if_pos h, if_pos hi]
theorem own_none {n i f : Int} (h : right n = true) (hi : ¬ (0 ≤ i ∧ i < n)) : own n i f = 0 := by unfold own; rw [if_pos h, if_neg hi]
theorem own_no {n i f : Int} (h : right n = false) : own n i f = 0 := by unfold own; rw [if_neg (by rw [h]; decide)]
theorem err_yes {n i : Int} (h : right n = true) (hi : 0 ≤ i ∧ i < n) : err n i = 0 := by unfold err; rw [if_pos h, if_pos hi]
theorem err_none {n i : Int} (h : right n = true) (hi : ¬ (0 ≤ i ∧ i < n)) : err n i = 2 := by unfold err; rw [if_pos h, if_neg hi]
theorem err_no {n i : Int} (h : right n = false) : err n i = 1 := by unfold err; rw [if_neg (by rw [h]; decide)]
end Go.Proofs.Ytijgabippedhpaa.Conf
