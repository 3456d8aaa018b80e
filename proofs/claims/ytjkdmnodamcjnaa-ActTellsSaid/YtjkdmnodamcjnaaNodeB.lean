
import Derived.Test.YtjkdmnodamcjnaaRows
import Derived.Test.YtjkdmnodamcjnaaNodeA
namespace Go.Proofs.Ytjkdmnodamcjnaa
set_option linter.unusedVariables false
set_option linter.unusedSimpArgs false
open Go.ChangeShapes Go.WideShapes Go.RowKit

theorem nwake_any (i m c p : Int) (w : World) :
    Calls Try.prog 47 #[.agg #[.int .i64 i, .int .i64 m, .int .i64 c, .int .i64 p]] w fun e w' => e = .returned (.agg #[.int .i64 i, .int .i64 1, .int .i64 0, .int .i64 0]) ∧ Below w.heap.size w w' := by
  go_enter Try.func47, Try.ntmps47
  go_wp2
  refine bodyPost_ret (ret_cell Try.results47 (w.heap.size + 1) [.int .i64 i, .int .i64 1, .int .i64 0, .int .i64 0] _ rfl rng Try.underlying23 rfl (by kernel_rfl)) rfl ⟨rfl, ?_⟩; exact bel
/-- What a node is, made right. -/
def Node.cleaned (n i m c p : Int) : Array Value := if Conf.err n i = 0 then #[.int .i64 i, .int .i64 (Node.mode m), .int .i64 (Node.count c), .int .i64 (Node.pos n m p)] else #[.int .i64 0, .int .i64 0, .int .i64 0, .int .i64 0]
theorem Node.cleaned_flat (n i m c p : Int) : Node.cleaned n i m c p = #[.int .i64 (if Conf.err n i = 0 then i else 0), .int .i64 (if Conf.err n i = 0 then Node.mode m else 0), .int .i64 (if Conf.err n i = 0 then Node.count c else 0), .int .i64 (if Conf.err n i = 0 then Node.pos n m p else 0)] := by
  unfold Node.cleaned
  by_cases h : Conf.err n i = 0
  · simp only [if_pos h]
  · simp only [if_neg h]
end Go.Proofs.Ytjkdmnodamcjnaa
