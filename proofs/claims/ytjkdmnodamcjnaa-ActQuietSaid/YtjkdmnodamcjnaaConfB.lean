
import Derived.Test.YtjkdmnodamcjnaaRows
import Derived.Test.YtjkdmnodamcjnaaConfA
namespace Go.Proofs.Ytjkdmnodamcjnaa
set_option linter.unusedVariables false
set_option linter.unusedSimpArgs false
open Go.ChangeShapes Go.WideShapes Go.RowKit

theorem rounds_tm (a : Array UInt8) (f n : Int) (ha : a.size ≤ 100) (hf : table.atKey (.string a.toList) (.lit (.int .i64 0)) = .lit (.int .i64 f)) (f0 : 0 ≤ f) (f1 : f ≤ 96) (w : World) :
    Calls Try.prog 64 #[.string ⟨a⟩, .int .i64 n] w fun e w' => e = .returned (.int .i64 (Conf.tm n f)) ∧ Below w.heap.size w w' := by
  by_cases h : Conf.right n = true
  · rw [Conf.tm_yes h]; exact rounds_yes a f n ha hf f0 f1 h w
  · have h := Bool.eq_false_iff.2 h
    rw [Conf.tm_no h]; exact rounds_no _ n h w
theorem times_tm (n f : Int) (f0 : 0 ≤ f) (f1 : f ≤ 96) (w : World) :
    Calls Try.prog 51 #[.int .i64 n, .int .i64 f] w fun e w' => e = .returned (.int .i64 (Conf.tm n f)) ∧ w = w' := by
  by_cases h : Conf.right n = true
  · rw [Conf.tm_yes h]
    obtain ⟨hn3, hn8⟩ := Conf.right_spec.1 h
    have H := Lib.hid h
    have m0 : 0 ≤ n * f := Int.mul_nonneg (by omega) f0
    have m1 : n * f ≤ 8 * 96 := Int.mul_le_mul hn8 f1 (by omega) (by omega)
    clear h
    go_enter Try.func51, Try.ntmps51
    go_wp2_with fail
    refine (refCright_any _ _).mono ?_; rintro e w' ⟨rfl, rfl⟩
    rw [H.out]
    go_wp2
    go_ret
    exact ⟨ret_int (Int.mul_comm _ _), rfl⟩
  · have h := Bool.eq_false_iff.2 h
    rw [Conf.tm_no h]
    have H := Lib.hid h
    clear h
    go_enter Try.func51, Try.ntmps51
    go_wp2_with fail
    refine (refCright_any _ _).mono ?_; rintro e w' ⟨rfl, rfl⟩
    rw [H.out]
    go_wp2
    go_ret
    exact ⟨rfl, rfl⟩
theorem cWatch_any (n : Int) (w : World) :
    Calls Try.prog 49 #[.int .i64 n] w fun e w' => e = .returned (.int .i64 (Conf.tm n 8)) ∧ Below w.heap.size w w' := by
  go_enter Try.func49, Try.ntmps49
  go_wp2_with fail
  refine (rounds_tm #[87, 97, 116, 99, 104] 8 _ (by decide) (by kernel_rfl) (by decide) (by decide) _).mono ?_; rintro e w1 ⟨rfl, hb⟩; obtain ⟨hc, hf, hz⟩ := bcall hb; (try simp only [World.size_alloc, World.heap_drewN] at hz)
  go_wp2
  go_ret
  exact ⟨rfl, bel⟩
theorem refCWatch_any (n : Int) (w : World) :
    Calls Try.prog 31 #[.int .i64 n] w fun e w' => e = .returned (.int .i64 (Conf.tm n 8)) ∧ w = w' := by
  go_enter Try.func31, Try.ntmps31
  go_wp2_with fail
  refine (times_tm _ 8 (by decide) (by decide) _).mono ?_; rintro e w' ⟨rfl, rfl⟩
  go_wp2
  go_ret
  exact ⟨rfl, rfl⟩
theorem own_any (a : Array UInt8) (f n i : Int) (ha : a.size ≤ 100) (hf : table.atKey (.string a.toList) (.lit (.int .i64 0)) = .lit (.int .i64 f)) (f0 : 0 ≤ f) (f1 : f ≤ 96) (w : World) :
    Calls Try.prog 56 #[.string ⟨a⟩, .int .i64 n, .int .i64 i] w fun e w' => e = .returned (.tuple #[.int .i64 (Conf.own n i f), .int .i64 (Conf.err n i)]) ∧ Below w.heap.size w w' := by
  by_cases h : Conf.right n = true
  · obtain ⟨hn3, hn8⟩ := Conf.right_spec.1 h
    have H := Lib.hid h
    by_cases hi : 0 ≤ i ∧ i < n
    · rw [Conf.own_yes h hi, Conf.err_yes h hi]
      obtain ⟨i0, i1⟩ := hi
      have m0 : 0 ≤ f * n := Int.mul_nonneg f0 (by omega)
      have m1 : f * n ≤ 96 * 8 := Int.mul_le_mul f1 hn8 (by omega) (by omega)
      clear h
      go_enter Try.func56, Try.ntmps56
      go_wp2_with fail
      refine (cright_any _ _).mono ?_; rintro e w' ⟨rfl, rfl⟩
      rw [H.out]
      go_wp2_with fail
      refine (rounds_yes a f _ ha hf f0 f1 H.out _).mono ?_; rintro e w1 ⟨rfl, hb⟩; obtain ⟨hc, hf, hz⟩ := bcall hb; (try simp only [World.size_alloc, World.heap_drewN] at hz)
      clear hf
      go_wp2
      go_ret2
      exact ⟨rfl, bel⟩
    · rw [Conf.own_none h hi, Conf.err_none h hi]
      clear h hf
      by_cases hi0 : i < 0
      · clear hi
        go_enter Try.func56, Try.ntmps56
        go_wp2_with fail
        refine (cright_any _ _).mono ?_; rintro e w' ⟨rfl, rfl⟩
        rw [H.out]
        go_wp2
        go_ret2
        exact ⟨rfl, bel⟩
      · have hi1 : n ≤ i := by omega
        clear hi
        go_enter Try.func56, Try.ntmps56
        go_wp2_with fail
        refine (cright_any _ _).mono ?_; rintro e w' ⟨rfl, rfl⟩
        rw [H.out]
        go_wp2
        go_ret2
        exact ⟨rfl, bel⟩
  · have h := Bool.eq_false_iff.2 h
    rw [Conf.own_no h, Conf.err_no h]
    have H := Lib.hid h
    clear h hf
    go_enter Try.func56, Try.ntmps56
    go_wp2_with fail
    refine (cright_any _ _).mono ?_; rintro e w' ⟨rfl, rfl⟩
    rw [H.out]
    go_wp2
    go_ret2
    exact ⟨rfl, bel⟩
theorem of_any (f n i : Int) (f0 : 0 ≤ f) (f1 : f ≤ 96) (w : World) :
    Calls Try.prog 65 #[.int .i64 n, .int .i64 i, .int .i64 f] w fun e w' => e = .returned (.tuple #[.int .i64 (Conf.own n i f), .int .i64 (Conf.err n i)]) ∧ w = w' := by
  by_cases h : Conf.right n = true
  · obtain ⟨hn3, hn8⟩ := Conf.right_spec.1 h
    have H := Lib.hid h
    by_cases hi : 0 ≤ i ∧ i < n
    · rw [Conf.own_yes h hi, Conf.err_yes h hi]
      obtain ⟨i0, i1⟩ := hi
      have m0 : 0 ≤ f * n := Int.mul_nonneg f0 (by omega)
      have m1 : f * n ≤ 96 * 8 := Int.mul_le_mul f1 hn8 (by omega) (by omega)
      clear h
      go_enter Try.func65, Try.ntmps65
      go_wp2_with fail
      refine (refCright_any _ _).mono ?_; rintro e w' ⟨rfl, rfl⟩
      rw [H.out]
      go_wp2
      go_ret2
      exact ⟨rfl, rfl⟩
    · rw [Conf.own_none h hi, Conf.err_none h hi]
      clear h
      by_cases hi0 : i < 0
      · clear hi
        go_enter Try.func65, Try.ntmps65
        go_wp2_with fail
        refine (refCright_any _ _).mono ?_; rintro e w' ⟨rfl, rfl⟩
        rw [H.out]
        go_wp2
        go_ret2
        exact ⟨rfl, rfl⟩
      · have hi1 : n ≤ i := by omega
        clear hi
        go_enter Try.func65, Try.ntmps65
        go_wp2_with fail
        refine (refCright_any _ _).mono ?_; rintro e w' ⟨rfl, rfl⟩
        rw [H.out]
        go_wp2
        go_ret2
        exact ⟨rfl, rfl⟩
  · have h := Bool.eq_false_iff.2 h
    rw [Conf.own_no h, Conf.err_no h]
    have H := Lib.hid h
    clear h
    go_enter Try.func65, Try.ntmps65
    go_wp2_with fail
    refine (refCright_any _ _).mono ?_; rintro e w' ⟨rfl, rfl⟩
    rw [H.out]
    go_wp2
    go_ret2
    exact ⟨rfl, rfl⟩
theorem cListen_any (n i : Int) (w : World) :
    Calls Try.prog 37 #[.int .i64 n, .int .i64 i] w fun e w' => e = .returned (.tuple #[.int .i64 (Conf.own n i 4), .int .i64 (Conf.err n i)]) ∧ Below w.heap.size w w' := by
  go_enter Try.func37, Try.ntmps37
  go_wp2_with fail
  refine (own_any #[76, 105, 115, 116, 101, 110] 4 _ _ (by decide) (by kernel_rfl) (by decide) (by decide) _).mono ?_; rintro e w1 ⟨rfl, hb⟩; obtain ⟨hc, hf, hz⟩ := bcall hb; (try simp only [World.size_alloc, World.heap_drewN] at hz)
  go_wp2
  go_ret2
  exact ⟨rfl, bel⟩
theorem refCListen_any (n i : Int) (w : World) :
    Calls Try.prog 52 #[.int .i64 n, .int .i64 i] w fun e w' => e = .returned (.tuple #[.int .i64 (Conf.own n i 4), .int .i64 (Conf.err n i)]) ∧ w = w' := by
  go_enter Try.func52, Try.ntmps52
  go_wp2_with fail
  refine (of_any 4 _ _ (by decide) (by decide) _).mono ?_; rintro e w' ⟨rfl, rfl⟩
  go_wp2
  go_ret2
  exact ⟨rfl, rfl⟩
theorem cCold_any (n i : Int) (w : World) :
    Calls Try.prog 39 #[.int .i64 n, .int .i64 i] w fun e w' => e = .returned (.tuple #[.int .i64 (Conf.own n i 2), .int .i64 (Conf.err n i)]) ∧ Below w.heap.size w w' := by
  go_enter Try.func39, Try.ntmps39
  go_wp2_with fail
  refine (own_any #[67, 111, 108, 100] 2 _ _ (by decide) (by kernel_rfl) (by decide) (by decide) _).mono ?_; rintro e w1 ⟨rfl, hb⟩; obtain ⟨hc, hf, hz⟩ := bcall hb; (try simp only [World.size_alloc, World.heap_drewN] at hz)
  go_wp2
  go_ret2
  exact ⟨rfl, bel⟩
theorem refCCold_any (n i : Int) (w : World) :
    Calls Try.prog 53 #[.int .i64 n, .int .i64 i] w fun e w' => e = .returned (.tuple #[.int .i64 (Conf.own n i 2), .int .i64 (Conf.err n i)]) ∧ w = w' := by
  go_enter Try.func53, Try.ntmps53
  go_wp2_with fail
  refine (of_any 2 _ _ (by decide) (by decide) _).mono ?_; rintro e w' ⟨rfl, rfl⟩
  go_wp2
  go_ret2
  exact ⟨rfl, rfl⟩

end Go.Proofs.Ytjkdmnodamcjnaa
