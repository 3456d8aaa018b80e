
import Derived.Test.YtijgabippedhpaaRows
import Derived.Test.YtijgabippedhpaaVoteD
namespace Go.Proofs.Ytijgabippedhpaa
set_option linter.unusedVariables false
set_option linter.unusedSimpArgs false
open Go.ChangeShapes Go.WideShapes Go.RowKit

/-- A tick later, when the first 'K' ages are. -/
def tickK (n : Int) (f : Nat → Int) (K j : Nat) : Int := if j < K then Tally.up (f j) n else f j
theorem tickK_at (n : Int) (f : Nat → Int) (K : Nat) : tickK n f K K = f K := if_neg (by omega)
theorem tickK_next (n : Int) (f : Nat → Int) (K j : Nat) : tickK n f (K + 1) j = if j = K then Tally.up (f K) n else tickK n f K j := by
  unfold tickK
  by_cases e : j = K
  · subst e; rw [if_pos (by omega), if_pos rfl]
  · rw [if_neg e]
    by_cases e2 : j < K
    · rw [if_pos e2, if_pos (by omega)]
    · rw [if_neg e2, if_neg (by omega)]
theorem tick_yes {m : Nat} {f : Nat → Int} (h : Vote.ok m f = true) (j : Nat) (hj : j < 12) : Vote.tick m f j = (if j = 11 then (f 11 + 1) % m else if j = 10 then Tally.down (f 10) else if j = 9 then Tally.up (f 9) (2 * m + 1) else tickK m f m j) := by
  have h38 := (Vote.ok_iff.1 h).1
  unfold Vote.tick tickK
  rw [if_pos h]
  by_cases h8 : j < 8
  · rw [if_pos h8]
    simp only [if_neg (show ¬ j = 11 by omega), if_neg (show ¬ j = 10 by omega), if_neg (show ¬ j = 9 by omega)]
    by_cases hm : j < m
    · rw [if_pos hm, if_pos (show (j : Int) < m by omega)]
    · rw [if_neg hm, if_neg (show ¬ (j : Int) < m by omega)]
  · rw [if_neg h8]
    have h4 : j = 8 ∨ j = 9 ∨ j = 10 ∨ j = 11 := by omega
    rcases h4 with rfl | rfl | rfl | rfl
    · simp only [if_neg (show ¬ (8 : Nat) = 11 by omega), if_neg (show ¬ (8 : Nat) = 10 by omega), if_neg (show ¬ (8 : Nat) = 9 by omega), if_neg (show ¬ 8 < m by omega), if_true]
    · rfl
    · rfl
    · rfl
theorem tick_no {n : Int} {f : Nat → Int} (h : Vote.ok n f = false) (j : Nat) : Vote.tick n f j = 0 := by unfold Vote.tick; rw [h]; rfl
theorem tickErr_yes {n : Int} {f : Nat → Int} (h : Vote.ok n f = true) : Vote.tickErr n f = 0 := if_pos h
theorem tickErr_no {n : Int} {f : Nat → Int} (h : Vote.ok n f = false) : Vote.tickErr n f = 1 := by unfold Vote.tickErr; rw [h]; rfl
end Go.Proofs.Ytijgabippedhpaa
