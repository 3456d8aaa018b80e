
import Derived.Test.YtijgabippedhpaaRows
import Derived.Test.YtijgabippedhpaaVoteC
import Derived.Deep.Cut
import Derived.Deep.CutRange
import Derived.BigRegion
import Derived.StillTailTactics
namespace Go.Proofs.Ytijgabippedhpaa
set_option linter.unusedVariables false
set_option linter.unusedSimpArgs false
open Go.ChangeShapes Go.WideShapes Go.RowKit

theorem Calls.back {P : Program} {f : FuncId} {args : Array Value} {w : World} {v : Value} (h : Calls P f args w fun e w' => e = .returned v ∧ w = w') : Calls P f args w fun e w' => e = .returned v ∧ w' = w :=
  h.mono fun _ _ ⟨h1, h2⟩ => ⟨h1, h2.symm⟩
/-- One made right, when the first 'K' ages are. -/
def cleanK (n : Int) (f : Nat → Int) (K j : Nat) : Int := if j < K then Tally.clamp (f j) 0 (Vote.most n j) else f j
theorem cleanK_at (n : Int) (f : Nat → Int) (K : Nat) : cleanK n f K K = f K := if_neg (by omega)
theorem cleanK_next (n : Int) (f : Nat → Int) (K j : Nat) : cleanK n f (K + 1) j = if j = K then Tally.clamp (f K) 0 (Vote.most n K) else cleanK n f K j := by
  unfold cleanK
  by_cases e : j = K
  · subst e; rw [if_pos (by omega), if_pos rfl]
  · rw [if_neg e]
    by_cases e2 : j < K
    · rw [if_pos e2, if_pos (by omega)]
    · rw [if_neg e2, if_neg (by omega)]
theorem clean_yes {n : Int} {f : Nat → Int} (h : Conf.right n = true) (j : Nat) (hj : j < 12) : Vote.clean n f j = (if j = 11 then f 11 % n else if j = 10 then Tally.clamp (f 10) 0 (2 * n) else if j = 9 then Tally.clamp (f 9) 0 (2 * n + 1) else if j = 8 then f 8 % n else cleanK n f 8 j) := by
  unfold Vote.clean cleanK
  rw [if_pos h]
  rcases twelve hj with rfl | rfl | rfl | rfl | rfl | rfl | rfl | rfl | rfl | rfl | rfl | rfl <;> rfl
theorem clean_no {n : Int} {f : Nat → Int} (h : Conf.right n = false) (j : Nat) : Vote.clean n f j = 0 := by unfold Vote.clean; rw [h]; rfl
end Go.Proofs.Ytijgabippedhpaa
