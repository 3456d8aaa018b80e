
import Derived.Test.YtijgabippedhpaaRows
import Derived.Test.YtijgabippedhpaaVoteE
namespace Go.Proofs.Ytijgabippedhpaa
set_option linter.unusedVariables false
set_option linter.unusedSimpArgs false
open Go.ChangeShapes Go.WideShapes Go.RowKit

theorem refAt_val (n p a x : Int) (h : (p + a) % n = x) (h1 : 1 ≤ n) (h2 : n ≤ 1000000) (p0 : 0 ≤ p) (p1 : p < n) (a0 : 0 ≤ a) (a1 : a ≤ 1099511627776) (w : World) :
    Calls Try.prog 40 #[.int .i64 n, .int .i64 p, .int .i64 a] w fun e w' => e = .returned (.int .i64 x) ∧ w = w' := by
  rw [← h]
  exact refAt_any n p a h1 h2 p0 p1 a0 a1 w
set_option maxHeartbeats 2000000 in
theorem refVt_any (m : Nat) (f : Nat → Int) (p : Nat) (v : Int) (w : World) (h : Vote.Ok m f) (hp : p < m) :
    Calls Try.prog 34 #[.int .i64 m, .agg #[.int .i64 (f 0), .int .i64 (f 1), .int .i64 (f 2), .int .i64 (f 3), .int .i64 (f 4), .int .i64 (f 5), .int .i64 (f 6), .int .i64 (f 7), .int .i64 (f 8), .int .i64 (f 9), .int .i64 (f 10), .int .i64 (f 11)], .int .i64 p, .int .i64 v] w fun e w' => e = .returned (.bool (Vote.vt m f v p)) ∧ Below w.heap.size w w' := by
  obtain ⟨h38, hA, -, k9, -, -⟩ := h
  have hap := hA p (by omega)
  rw [Vote.most_yes (by omega)] at hap
  have ht : Conf.tm m 2 = 2 * m := Conf.tm_yes (Conf.right_spec.2 h38)
  have CB := Lib.hid (fun w => refBlock_val m _ ht w)
  have HV : Hid (Vote.vt m f v p = ((decide (f p < m) && (((p : Int) + f p) % m == v)) || (((p : Int) == f 8) && decide (f 9 < 2 * m) && (((p : Int) + f 9) % m == v)))) := rfl
  generalize hx : ((p : Int) + f p) % (m : Int) = x at *
  generalize hy : ((p : Int) + f 9) % (m : Int) = y at *
  have CX := Lib.hid (fun w => refAt_val m p (f p) x hx (by omega) (by omega) (by omega) (by omega) (by omega) (by omega) w)
  have CY := Lib.hid (fun w => refAt_val m p (f 9) y hy (by omega) (by omega) (by omega) (by omega) (by omega) (by omega) w)
  have h1 : (p : Int) < m := by omega
  have h8 : (p : Int) < 8 := by omega
  have h0 : (0 : Int) ≤ p := by omega
  generalize Vote.vt m f v p = r at *
  clear hA ht hx hy k9
  go_enter Try.func34, Try.ntmps34
  go_upto_region 1 with fail
  have HI := Lib.hid (Ints.box w f 24)
  have HB := Lib.hid (show Below w.heap.size w (w.alloc (.cells #[.int .i64 (f 0), .int .i64 (f 1), .int .i64 (f 2), .int .i64 (f 3), .int .i64 (f 4), .int .i64 (f 5), .int .i64 (f 6), .int .i64 (f 7), .int .i64 (f 8), .int .i64 (f 9), .int .i64 (f 10), .int .i64 (f 11)] 24)) from bel)
  generalize w.alloc _ = w1 at *
  have cp := (HI.out.2 p (by omega)).1
  have c8 := (HI.out.2 8 (by decide)).1
  have c9 := (HI.out.2 9 (by decide)).1
  have hz := HI.out.1
  cases q2 : (x == v)
  all_goals
    cases q3 : ((p : Int) == f 8)
    all_goals
      cases q4 : (decide (f 9 < 2 * (m : Int)))
      all_goals
        cases q5 : (y == v)
        all_goals
          by_cases q1 : f p < (m : Int)
          · go_wp2_with fail
            refine (CX.out _).mono ?_; rintro e w' ⟨rfl, rfl⟩
            go_wp2_with fail
            go_quiet (first | with_reducible exact Calls.quiet_of_same (CB.out _) | with_reducible exact Calls.quiet_of_same (Calls.back (CY.out _)))
            have := HB.out
            go_wp2
            go_ret
            exact ⟨by rw [HV.out]; simp [q1, q2, q3, q4, q5], bel⟩
          · go_wp2_with fail
            go_quiet (first | with_reducible exact Calls.quiet_of_same (CB.out _) | with_reducible exact Calls.quiet_of_same (Calls.back (CY.out _)))
            have := HB.out
            go_wp2
            go_ret
            exact ⟨by rw [HV.out]; simp [q1, q2, q3, q4, q5], bel⟩
end Go.Proofs.Ytijgabippedhpaa
