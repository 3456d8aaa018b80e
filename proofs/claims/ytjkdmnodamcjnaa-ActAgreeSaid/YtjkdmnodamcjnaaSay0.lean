
import Derived.Test.YtjkdmnodamcjnaaNode0
/-
  Plain mathematics of what a node says (no program in it).
-/
namespace Go.Proofs.Ytjkdmnodamcjnaa.Say
set_option linter.unusedVariables false
set_option linter.unusedSimpArgs false

/-- In how many ticks a node that may be says something. -/
def wait (n i m c p : Int) : Int :=
  if m = 1 then max 0 (4 * n + 1 + i - c) else if m = 2 then max 0 (2 * n + 1 + i - c) else if m = 3 then (i - p) % n else -1
def due (n i m c p : Int) : Int := if Node.right n i m c p = true then wait n i m c p else -1
/-- Does it say something now? -/
def now (n i m c p : Int) : Bool := Node.right n i m c p && due n i m c p == 0
def kind (n i m c p : Int) : Int := if now n i m c p = true then (if m = 3 then 2 else 1) else 0
def id_ (n i m c p : Int) : Int := if now n i m c p = true then i else 0
def err (n i m c p : Int) : Int := if Node.right n i m c p = true then 0 else 1

theorem due_no {n i m c p : Int} (h : Node.right n i m c p = false) : due n i m c p = -1 := by unfold due; rw [if_neg (by rw [h]; decide)]
theorem due_yes {n i m c p : Int} (h : Node.right n i m c p = true) : due n i m c p = wait n i m c p := by unfold due; rw [if_pos h]
theorem no {n i m c p : Int} (h : Node.right n i m c p = false) : kind n i m c p = 0 ∧ id_ n i m c p = 0 ∧ err n i m c p = 1 := by
  unfold kind id_ err now
  simp [h]
theorem later {n i m c p : Int} (h : Node.right n i m c p = true) (hd : due n i m c p ≠ 0) : kind n i m c p = 0 ∧ id_ n i m c p = 0 ∧ err n i m c p = 0 := by
  unfold kind id_ err now
  simp [h, hd]
theorem yes {n i m c p : Int} (h : Node.right n i m c p = true) (hd : due n i m c p = 0) : kind n i m c p = (if m = 3 then 2 else 1) ∧ id_ n i m c p = i ∧ err n i m c p = 0 := by
  unfold kind id_ err now
  simp [h, hd]
theorem right_of {n i m c p : Int} (h : Node.right n i m c p = true) : 3 ≤ n ∧ n ≤ 8 ∧ 0 ≤ i ∧ i < n ∧ (m = 0 ∧ c = 0 ∧ p = 0 ∨ (m = 1 ∨ m = 2) ∧ 0 ≤ c ∧ c ≤ 1073741824 ∧ p = 0 ∨ m = 3 ∧ 0 ≤ c ∧ c ≤ 1073741824 ∧ 0 ≤ p ∧ p < n) := by
  unfold Node.right at h
  simpa using h
/-- A node that isn't powered is never due. -/
theorem due_init {n i c p : Int} : due n i 0 c p = -1 := by
  unfold due wait
  split <;> rfl
/-- A tick later. -/
theorem sooner_3 {n i c p : Int} (h : Node.right n i 3 c p = true) (hd : 1 ≤ due n i 3 c p) : Node.right n i 3 c ((p + 1) % n) = true ∧ due n i 3 c ((p + 1) % n) = due n i 3 c p - 1 := by
  have hr := right_of h
  have p0 := Int.emod_nonneg (p + 1) (b := n) (by omega)
  have p1 := Int.emod_lt_of_pos (p + 1) (b := n) (by omega)
  have h2 : Node.right n i 3 c ((p + 1) % n) = true := by
    exact decide_eq_true ⟨by omega, by omega, by omega, by omega, Or.inr (Or.inr ⟨rfl, by omega, by omega, by omega, by omega⟩)⟩
  refine ⟨h2, ?_⟩
  rw [due_yes h] at hd ⊢
  rw [due_yes h2]
  unfold wait at hd ⊢
  simp only [show ¬ ((3 : Int) = 1) by decide, show ¬ ((3 : Int) = 2) by decide, if_false, if_true] at hd ⊢
  have e : (i - (p + 1) % n) % n = (i - p - 1) % n := by
    rw [Int.sub_emod_emod]; congr 1; omega
  rw [e]
  have q := Int.emod_lt_of_pos (i - p) (b := n) (by omega)
  rw [show i - p - 1 = (i - p) + (-1) by omega, ← Int.emod_add_emod, Int.emod_eq_of_lt (by omega) (by omega)]
  omega
theorem sooner_12 {n i m c p : Int} (h : Node.right n i m c p = true) (hm : m ≠ 3) (hc : c ≤ 1000) (hd : 1 ≤ due n i m c p) : Node.right n i m (c + 1) p = true ∧ due n i m (c + 1) p = due n i m c p - 1 := by
  have hr := right_of h
  have hm0 : m ≠ 0 := by rintro rfl; rw [due_init] at hd; omega
  have h2 : Node.right n i m (c + 1) p = true := decide_eq_true ⟨by omega, by omega, by omega, by omega, Or.inr (Or.inl ⟨by omega, by omega, by omega, by omega⟩)⟩
  refine ⟨h2, ?_⟩
  rw [due_yes h] at hd ⊢
  rw [due_yes h2]
  unfold wait at hd ⊢
  have h12 : m = 1 ∨ m = 2 := by omega
  rcases h12 with rfl | rfl
  · simp only [if_true] at hd ⊢; omega
  · simp only [show ¬ ((2 : Int) = 1) by decide, if_false, if_true] at hd ⊢; omega
end Go.Proofs.Ytjkdmnodamcjnaa.Say
