
import Derived.Test.YtijgabippedhpaaConf0
import Derived.Test.YtijgabippedhpaaTally0
/-
  Plain mathematics of what a hub knows (no program in it). A hub is twelve integers: ages 0 to 7, its port, its age, how long it holds, which slot is now.
-/
namespace Go.Proofs.Ytijgabippedhpaa.Vote
set_option linter.unusedVariables false
set_option linter.unusedSimpArgs false

/-- The most that a port's age may be. -/
def most (n : Int) (j : Nat) : Int := if (j : Int) < n then n else 0
def Ok (n : Int) (f : Nat → Int) : Prop := (3 ≤ n ∧ n ≤ 8) ∧ (∀ j : Nat, j < 8 → 0 ≤ f j ∧ f j ≤ most n j) ∧ (0 ≤ f 8 ∧ f 8 ≤ n - 1) ∧ (0 ≤ f 9 ∧ f 9 ≤ 2 * n + 1) ∧ (0 ≤ f 10 ∧ f 10 ≤ 2 * n) ∧ (0 ≤ f 11 ∧ f 11 ≤ n - 1)
instance (n : Int) (f : Nat → Int) : Decidable (Ok n f) := by unfold Ok; infer_instance
def ok (n : Int) (f : Nat → Int) : Bool := decide (Ok n f)
theorem ok_iff {n : Int} {f : Nat → Int} : ok n f = true ↔ Ok n f := decide_eq_true_iff
theorem ok_no {n : Int} {f : Nat → Int} (h : ¬ Ok n f) : ok n f = false := decide_eq_false h
theorem most_yes {n : Int} {j : Nat} (h : (j : Int) < n) : most n j = n := if_pos h
theorem most_no {n : Int} {j : Nat} (h : ¬ (j : Int) < n) : most n j = 0 := if_neg h
/-- Which error a number of nodes has. -/
def err (n : Int) : Int := if Conf.right n = true then 0 else 1
theorem err_yes {n : Int} (h : Conf.right n = true) : err n = 0 := if_pos h
theorem err_no {n : Int} (h : Conf.right n = false) : err n = 1 := by unfold err; rw [h]; rfl
/-- A fresh one. -/
def fresh (n : Int) (j : Nat) : Int := if Conf.right n = true then (if j < 8 then most n j else if j = 9 then 2 * n + 1 else 0) else 0
/-- One made right. -/
def clean (n : Int) (f : Nat → Int) (j : Nat) : Int :=
  if Conf.right n = true then (if j < 8 then Tally.clamp (f j) 0 (most n j) else if j = 9 then Tally.clamp (f 9) 0 (2 * n + 1) else if j = 10 then Tally.clamp (f 10) 0 (2 * n) else f j % n) else 0
/-- A tick later. -/
def tick (n : Int) (f : Nat → Int) (j : Nat) : Int :=
  if ok n f = true then (if j < 8 then (if (j : Int) < n then Tally.up (f j) n else f j) else if j = 8 then f 8 else if j = 9 then Tally.up (f 9) (2 * n + 1) else if j = 10 then Tally.down (f 10) else (f 11 + 1) % n) else 0
def tickErr (n : Int) (f : Nat → Int) : Int := if ok n f = true then 0 else 1
/-- Does port 'p' vote for 'v'? -/
def said (n : Int) (f : Nat → Int) (v : Int) (p : Nat) : Bool := decide (f p < n) && (((p : Int) + f p) % n == v)
def held (n : Int) (f : Nat → Int) (v : Int) (p : Nat) : Bool := ((p : Int) == f 8) && decide (f 9 < 2 * n) && (((p : Int) + f 9) % n == v)
def vt (n : Int) (f : Nat → Int) (v : Int) (p : Nat) : Bool := said n f v p || held n f v p
/-- How many of the first 'K' ports vote for 'v'. -/
def cnt (n : Int) (f : Nat → Int) (v : Int) : Nat → Nat
  | 0 => 0
  | K + 1 => cnt n f v K + (if vt n f v K = true then 1 else 0)
def votes (n : Int) (f : Nat → Int) (v : Int) : Nat := if ok n f = true then cnt n f v n.toNat else 0
theorem cnt_le (n : Int) (f : Nat → Int) (v : Int) (K : Nat) : cnt n f v K ≤ K := by
  induction K with
  | zero => exact Nat.le_refl _
  | succ K ih => unfold cnt; split <;> omega
/-- The slot with most votes of the first 'K' ones. -/
def bestK (n : Int) (f : Nat → Int) : Nat → Nat
  | 0 => 0
  | K + 1 => if votes n f (bestK n f K) < votes n f K then K else bestK n f K
def best (n : Int) (f : Nat → Int) : Nat := if ok n f = true then bestK n f n.toNat else 0
def bestVotes (n : Int) (f : Nat → Int) : Nat := if ok n f = true then votes n f (best n f) else 0
theorem bestK_le (n : Int) (f : Nat → Int) (K : Nat) : bestK n f K ≤ K := by
  induction K with
  | zero => exact Nat.le_refl _
  | succ K ih => unfold bestK; split <;> omega
end Go.Proofs.Ytijgabippedhpaa.Vote
