
import Derived.Test.YtijgabippedhpaaRows
import Derived.Test.YtijgabippedhpaaConfA
namespace Go.Proofs.Ytijgabippedhpaa
set_option linter.unusedVariables false
set_option linter.unusedSimpArgs false
open Go.ChangeShapes Go.WideShapes Go.RowKit

theorem rounds_tm (a : Array UInt8) (f n : Int) (ha : a.size ≤ 100) (hf : table.atKey (.string a.toList) (.lit (.int .i64 0)) = .lit (.int .i64 f)) (f0 : 0 ≤ f) (f1 : f ≤ 96) (w : World) :
    Calls Try.prog 37 #[.string ⟨a⟩, .int .i64 n] w fun e w' => e = .returned (.int .i64 (Conf.tm n f)) ∧ Below w.heap.size w w' := by
  by_cases h : Conf.right n = true
  · rw [Conf.tm_yes h]; exact rounds_yes a f n ha hf f0 f1 h w
  · have h := Bool.eq_false_iff.2 h
    rw [Conf.tm_no h]; exact rounds_no _ n h w
theorem times_tm (n f : Int) (f0 : 0 ≤ f) (f1 : f ≤ 96) (w : World) :
    Calls Try.prog 38 #[.int .i64 n, .int .i64 f] w fun e w' => e = .returned (.int .i64 (Conf.tm n f)) ∧ w = w' := by
  by_cases h : Conf.right n = true
  · rw [Conf.tm_yes h]
    obtain ⟨hn3, hn8⟩ := Conf.right_spec.1 h
    have H := Lib.hid h
    have m0 : 0 ≤ n * f := Int.mul_nonneg (by omega) f0
    have m1 : n * f ≤ 8 * 96 := Int.mul_le_mul hn8 f1 (by omega) (by omega)
    clear h
    go_enter Try.func38, Try.ntmps38
    go_wp2_with fail
    refine (refCright_any _ _).mono ?_; rintro e w' ⟨rfl, rfl⟩
    rw [H.out]
    go_wp2
    go_ret
    exact ⟨ret_int (Int.mul_comm _ _), rfl⟩
  · have h := Bool.eq_false_iff.2 h
    rw [Conf.tm_no h]
    have H := Lib.hid h
    clear h
    go_enter Try.func38, Try.ntmps38
    go_wp2_with fail
    refine (refCright_any _ _).mono ?_; rintro e w' ⟨rfl, rfl⟩
    rw [H.out]
    go_wp2
    go_ret
    exact ⟨rfl, rfl⟩
theorem cBlock_any (n : Int) (w : World) :
    Calls Try.prog 26 #[.int .i64 n] w fun e w' => e = .returned (.int .i64 (Conf.tm n 2)) ∧ Below w.heap.size w w' := by
  go_enter Try.func26, Try.ntmps26
  go_wp2_with fail
  refine (rounds_tm #[66, 108, 111, 99, 107] 2 _ (by decide) (by kernel_rfl) (by decide) (by decide) _).mono ?_; rintro e w1 ⟨rfl, hb⟩; obtain ⟨hc, hf, hz⟩ := bcall hb; (try simp only [World.size_alloc, World.heap_drewN] at hz)
  go_wp2
  go_ret
  exact ⟨rfl, bel⟩
theorem refCBlock_any (n : Int) (w : World) :
    Calls Try.prog 27 #[.int .i64 n] w fun e w' => e = .returned (.int .i64 (Conf.tm n 2)) ∧ w = w' := by
  go_enter Try.func27, Try.ntmps27
  go_wp2_with fail
  refine (times_tm _ 2 (by decide) (by decide) _).mono ?_; rintro e w' ⟨rfl, rfl⟩
  go_wp2
  go_ret
  exact ⟨rfl, rfl⟩
end Go.Proofs.Ytijgabippedhpaa
