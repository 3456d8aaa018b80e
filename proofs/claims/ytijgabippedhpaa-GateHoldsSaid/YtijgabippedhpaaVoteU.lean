
import Derived.Test.YtijgabippedhpaaRows
import Derived.Test.YtijgabippedhpaaVoteT
namespace Go.Proofs.Ytijgabippedhpaa
set_option linter.unusedVariables false
set_option linter.unusedSimpArgs false
open Go.ChangeShapes Go.WideShapes Go.RowKit

theorem tick_end {n : Int} {f : Nat → Int} (h : Vote.Ok n f) (j : Nat) (hj : j < 12) :
    (if j = 11 then (f 11 + 1) % n else if j = 10 then Tally.down (f 10) else stK (fun j => Tally.up (f j) (ms n (idx j))) f 9 j) = Vote.tick n f j := by
  rw [stK_end]
  by_cases e : j < 8
  · rw [if_neg (show ¬ j = 11 by omega), if_neg (show ¬ j = 10 by omega), if_pos e, ms_port n e, Vote.tick_age h e]
    by_cases hp : (j : Int) < n
    · rw [if_pos hp, Vote.most_yes hp]
    · have := h.2.1 j e
      rw [Vote.most_no hp] at this
      rw [if_neg hp, Vote.most_no hp, Vote.up_min this]
      omega
  · have h4 : j = 8 ∨ j = 9 ∨ j = 10 ∨ j = 11 := by omega
    rcases h4 with rfl | rfl | rfl | rfl
    · rw [Vote.tick_8 h]; rfl
    · rw [Vote.tick_9 h]; rfl
    · rw [Vote.tick_10 h]; rfl
    · rw [Vote.tick_11 h]; rfl
end Go.Proofs.Ytijgabippedhpaa
