
import Derived.Test.YtnohgfolejookaaRows
import Derived.Test.YtnohgfolejookaaVoteV
import Derived.Test.YtnohgfolejookaaVoteJ
import Derived.Test.YtnohgfolejookaaVoteK
import Derived.Test.YtnohgfolejookaaVoteL
namespace Go.Proofs.Ytnohgfolejookaa
set_option linter.unusedVariables false
set_option linter.unusedSimpArgs false
open Go.ChangeShapes Go.WideShapes Go.RowKit

theorem cFresh : CFresh := fun n w _ => vFresh_any n w
theorem cClean : CClean := fun n f w _ hf => vClean_any n f w hf
theorem cRight : CRight := fun n f w _ hf => vRight_any n f w hf
theorem cTick : CTick := fun n f w _ hf => vTick_any n f w hf
theorem cVotes : CVotes := fun n f v w _ hf _ => vVotes_any n f v w hf
theorem cBest : CBest := fun n f w _ hf => vBest_any n f w hf
/-- Twelve integers. -/
def mk12 (a0 a1 a2 a3 a4 a5 a6 a7 a8 a9 a10 a11 : Int) : Nat → Int
  | 0 => a0
  | 1 => a1
  | 2 => a2
  | 3 => a3
  | 4 => a4
  | 5 => a5
  | 6 => a6
  | 7 => a7
  | 8 => a8
  | 9 => a9
  | 10 => a10
  | 11 => a11
  | _ => 0
theorem mk12_bd (a0 : Int) (h0 : -9223372036854775808 ≤ a0 ∧ a0 ≤ 9223372036854775807) (a1 : Int) (h1 : -9223372036854775808 ≤ a1 ∧ a1 ≤ 9223372036854775807) (a2 : Int) (h2 : -9223372036854775808 ≤ a2 ∧ a2 ≤ 9223372036854775807) (a3 : Int) (h3 : -9223372036854775808 ≤ a3 ∧ a3 ≤ 9223372036854775807) (a4 : Int) (h4 : -9223372036854775808 ≤ a4 ∧ a4 ≤ 9223372036854775807) (a5 : Int) (h5 : -9223372036854775808 ≤ a5 ∧ a5 ≤ 9223372036854775807) (a6 : Int) (h6 : -9223372036854775808 ≤ a6 ∧ a6 ≤ 9223372036854775807) (a7 : Int) (h7 : -9223372036854775808 ≤ a7 ∧ a7 ≤ 9223372036854775807) (a8 : Int) (h8 : -9223372036854775808 ≤ a8 ∧ a8 ≤ 9223372036854775807) (a9 : Int) (h9 : -9223372036854775808 ≤ a9 ∧ a9 ≤ 9223372036854775807) (a10 : Int) (h10 : -9223372036854775808 ≤ a10 ∧ a10 ≤ 9223372036854775807) (a11 : Int) (h11 : -9223372036854775808 ≤ a11 ∧ a11 ≤ 9223372036854775807) : Bd12 (mk12 a0 a1 a2 a3 a4 a5 a6 a7 a8 a9 a10 a11) := by
  intro j hj
  rcases twelve hj with rfl | rfl | rfl | rfl | rfl | rfl | rfl | rfl | rfl | rfl | rfl | rfl <;> assumption
theorem voteTells_walk (n : Int) (hn : -9223372036854775808 ≤ n ∧ n ≤ 9223372036854775807) (v : Int) (hv : -9223372036854775808 ≤ v ∧ v ≤ 9223372036854775807) (a0 : Int) (h0 : -9223372036854775808 ≤ a0 ∧ a0 ≤ 9223372036854775807) (a1 : Int) (h1 : -9223372036854775808 ≤ a1 ∧ a1 ≤ 9223372036854775807) (a2 : Int) (h2 : -9223372036854775808 ≤ a2 ∧ a2 ≤ 9223372036854775807) (a3 : Int) (h3 : -9223372036854775808 ≤ a3 ∧ a3 ≤ 9223372036854775807) (a4 : Int) (h4 : -9223372036854775808 ≤ a4 ∧ a4 ≤ 9223372036854775807) (a5 : Int) (h5 : -9223372036854775808 ≤ a5 ∧ a5 ≤ 9223372036854775807) (a6 : Int) (h6 : -9223372036854775808 ≤ a6 ∧ a6 ≤ 9223372036854775807) (a7 : Int) (h7 : -9223372036854775808 ≤ a7 ∧ a7 ≤ 9223372036854775807) (a8 : Int) (h8 : -9223372036854775808 ≤ a8 ∧ a8 ≤ 9223372036854775807) (a9 : Int) (h9 : -9223372036854775808 ≤ a9 ∧ a9 ≤ 9223372036854775807) (a10 : Int) (h10 : -9223372036854775808 ≤ a10 ∧ a10 ≤ 9223372036854775807) (a11 : Int) (h11 : -9223372036854775808 ≤ a11 ∧ a11 ≤ 9223372036854775807) (w : World) :
    Calls Try.prog 3 #[.int .i64 n, .int .i64 v, .agg #[.int .i64 a0, .int .i64 a1, .int .i64 a2, .int .i64 a3, .int .i64 a4, .int .i64 a5, .int .i64 a6, .int .i64 a7, .int .i64 a8, .int .i64 a9, .int .i64 a10, .int .i64 a11]] w fun e w' => e = .returned (.bool true) ∧ Below w.heap.size w w' :=
  voteTells_of cFresh cClean cRight cTick cVotes cBest n v (mk12 a0 a1 a2 a3 a4 a5 a6 a7 a8 a9 a10 a11) hn hv (mk12_bd a0 h0 a1 h1 a2 h2 a3 h3 a4 h4 a5 h5 a6 h6 a7 h7 a8 h8 a9 h9 a10 h10 a11 h11) w
theorem voteFew_walk (n : Nat) (hn : n < 256) (a0 : Int) (h0 : -9223372036854775808 ≤ a0 ∧ a0 ≤ 9223372036854775807) (a1 : Int) (h1 : -9223372036854775808 ≤ a1 ∧ a1 ≤ 9223372036854775807) (a2 : Int) (h2 : -9223372036854775808 ≤ a2 ∧ a2 ≤ 9223372036854775807) (a3 : Int) (h3 : -9223372036854775808 ≤ a3 ∧ a3 ≤ 9223372036854775807) (a4 : Int) (h4 : -9223372036854775808 ≤ a4 ∧ a4 ≤ 9223372036854775807) (a5 : Int) (h5 : -9223372036854775808 ≤ a5 ∧ a5 ≤ 9223372036854775807) (a6 : Int) (h6 : -9223372036854775808 ≤ a6 ∧ a6 ≤ 9223372036854775807) (a7 : Int) (h7 : -9223372036854775808 ≤ a7 ∧ a7 ≤ 9223372036854775807) (a8 : Int) (h8 : -9223372036854775808 ≤ a8 ∧ a8 ≤ 9223372036854775807) (a9 : Int) (h9 : -9223372036854775808 ≤ a9 ∧ a9 ≤ 9223372036854775807) (a10 : Int) (h10 : -9223372036854775808 ≤ a10 ∧ a10 ≤ 9223372036854775807) (a11 : Int) (h11 : -9223372036854775808 ≤ a11 ∧ a11 ≤ 9223372036854775807) (w : World) :
    Calls Try.prog 4 #[.int .u8 n, .agg #[.int .i64 a0, .int .i64 a1, .int .i64 a2, .int .i64 a3, .int .i64 a4, .int .i64 a5, .int .i64 a6, .int .i64 a7, .int .i64 a8, .int .i64 a9, .int .i64 a10, .int .i64 a11]] w fun e w' => e = .returned (.bool true) ∧ Below w.heap.size w w' :=
  voteFew_of cFresh cClean cRight cTick cVotes cBest n hn (mk12 a0 a1 a2 a3 a4 a5 a6 a7 a8 a9 a10 a11) (mk12_bd a0 h0 a1 h1 a2 h2 a3 h3 a4 h4 a5 h5 a6 h6 a7 h7 a8 h8 a9 h9 a10 h10 a11 h11) w
theorem voteEnds_walk (n : Nat) (hn : n < 256) (a0 : Int) (h0 : -9223372036854775808 ≤ a0 ∧ a0 ≤ 9223372036854775807) (a1 : Int) (h1 : -9223372036854775808 ≤ a1 ∧ a1 ≤ 9223372036854775807) (a2 : Int) (h2 : -9223372036854775808 ≤ a2 ∧ a2 ≤ 9223372036854775807) (a3 : Int) (h3 : -9223372036854775808 ≤ a3 ∧ a3 ≤ 9223372036854775807) (a4 : Int) (h4 : -9223372036854775808 ≤ a4 ∧ a4 ≤ 9223372036854775807) (a5 : Int) (h5 : -9223372036854775808 ≤ a5 ∧ a5 ≤ 9223372036854775807) (a6 : Int) (h6 : -9223372036854775808 ≤ a6 ∧ a6 ≤ 9223372036854775807) (a7 : Int) (h7 : -9223372036854775808 ≤ a7 ∧ a7 ≤ 9223372036854775807) (a8 : Int) (h8 : -9223372036854775808 ≤ a8 ∧ a8 ≤ 9223372036854775807) (a9 : Int) (h9 : -9223372036854775808 ≤ a9 ∧ a9 ≤ 9223372036854775807) (a10 : Int) (h10 : -9223372036854775808 ≤ a10 ∧ a10 ≤ 9223372036854775807) (a11 : Int) (h11 : -9223372036854775808 ≤ a11 ∧ a11 ≤ 9223372036854775807) (w : World) :
    Calls Try.prog 5 #[.int .u8 n, .agg #[.int .i64 a0, .int .i64 a1, .int .i64 a2, .int .i64 a3, .int .i64 a4, .int .i64 a5, .int .i64 a6, .int .i64 a7, .int .i64 a8, .int .i64 a9, .int .i64 a10, .int .i64 a11]] w fun e w' => e = .returned (.bool true) ∧ Below w.heap.size w w' :=
  voteEnds_of cFresh cClean cTick cBest n hn (mk12 a0 a1 a2 a3 a4 a5 a6 a7 a8 a9 a10 a11) (mk12_bd a0 h0 a1 h1 a2 h2 a3 h3 a4 h4 a5 h5 a6 h6 a7 h7 a8 h8 a9 h9 a10 h10 a11 h11) w
end Go.Proofs.Ytnohgfolejookaa
