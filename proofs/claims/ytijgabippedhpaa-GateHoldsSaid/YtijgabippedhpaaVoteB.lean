
import Derived.Test.YtijgabippedhpaaRows
import Derived.Test.YtijgabippedhpaaVoteA
import Derived.Test.YtijgabippedhpaaConfB
import Derived.Test.YtijgabippedhpaaTallyA
import Derived.Test.YtijgabippedhpaaRingA
import Derived.LoopTactic
import Derived.Deep.QuietTactic
import Derived.BigQuiet
import Derived.RegionTactic
import Derived.IntWalk
namespace Go.Proofs.Ytijgabippedhpaa
set_option linter.unusedVariables false
set_option linter.unusedSimpArgs false
open Go.ChangeShapes Go.WideShapes Go.RowKit

theorem refIn_any (c m : Int) (w : World) :
    Calls Try.prog 33 #[.int .i64 c, .int .i64 m] w fun e w' => e = .returned (.bool (decide (0 ≤ c ∧ c ≤ m))) ∧ w = w' := by
  go_enter Try.func33, Try.ntmps33
  go_wp2
  all_goals
    go_ret
    exact ⟨ret_bool (by simp [*] <;> omega), rfl⟩
theorem refIn_val (c m : Int) (b : Bool) (h : decide (0 ≤ c ∧ c ≤ m) = b) (w : World) :
    Calls Try.prog 33 #[.int .i64 c, .int .i64 m] w fun e w' => e = .returned (.bool b) ∧ w' = w := by
  rw [← h]
  exact (refIn_any c m w).mono fun e w' ⟨h1, h2⟩ => ⟨h1, h2.symm⟩
theorem refBlock_val (n x : Int) (h : Conf.tm n 2 = x) (w : World) :
    Calls Try.prog 27 #[.int .i64 n] w fun e w' => e = .returned (.int .i64 x) ∧ w' = w := by
  rw [← h]
  exact (refCBlock_any n w).mono fun e w' ⟨h1, h2⟩ => ⟨h1, h2.symm⟩
set_option maxHeartbeats 2000000 in
theorem refVRight_any (n : Int) (f : Nat → Int) (w : World) :
    Calls Try.prog 16 #[.int .i64 n, .agg #[.int .i64 (f 0), .int .i64 (f 1), .int .i64 (f 2), .int .i64 (f 3), .int .i64 (f 4), .int .i64 (f 5), .int .i64 (f 6), .int .i64 (f 7), .int .i64 (f 8), .int .i64 (f 9), .int .i64 (f 10), .int .i64 (f 11)]] w fun e w' => e = .returned (.bool (Vote.ok n f)) ∧ Below w.heap.size w w' := by
  by_cases h : Conf.right n = true
  · have h38 := Conf.right_spec.1 h
    have HR := Lib.hid h
    clear h
    go_enter Try.func16, Try.ntmps16
    go_wp2_with fail
    refine (refCright_any _ _).mono ?_; rintro e w' ⟨rfl, rfl⟩
    rw [HR.out]
    go_wp2_with fail
    have HI := Lib.hid (Ints.box w f 24)
    go_loopw [5] (fun k wr => ∃ K : Nat, K ≤ 8 ∧ k = .int .i64 K ∧ Ints wr w.heap.size 12 f ∧ Below w.heap.size w wr ∧ ∀ j : Nat, j < K → 0 ≤ f j ∧ f j ≤ Vote.most n j) (fun k _ => 8 - (intOf k).toNat)
    case atStart => exact ⟨0, by omega, rfl, HI.out, bel, fun j hj => by omega⟩
    case round =>
      clear HI
      obtain ⟨K, hK, rfl, hI, hb, hall⟩ := hrel
      have HB := Lib.hid hb
      have HA := Lib.hid hall
      by_cases hlt : K < 8
      · have h1 : (K : Int) < 8 := by omega
        have h0 : (0 : Int) ≤ K := by omega
        have c0 := (hI.2 K (by omega)).1
        have HI := Lib.hid hI
        clear hb hall hI
        by_cases hp : (K : Int) < n
        · have CI := Lib.hid (fun b hh w => refIn_val (f K) n b hh w)
          by_cases hq : 0 ≤ f K ∧ f K ≤ n
          · have HQ := Lib.hid hq
            have C := Lib.hid (CI.out true (decide_eq_true hq))
            clear hq CI
            go_wp2_with fail
            refine (C.out _).mono ?_; rintro e w' ⟨rfl, rfl⟩
            go_wp2
            go_roundw
            case rel =>
              refine ⟨K + 1, by omega, by go_num, HI.out, HB.out, fun j hj => ?_⟩
              by_cases e : j = K
              · subst e; rw [Vote.most_yes hp]; exact HQ.out
              · exact HA.out j (by omega)
            case measure => simp [intOf]; omega
          · have HN : Hid (Vote.ok n f = false) := Vote.ok_no (fun q => hq (by have := q.2.1 K hlt; rw [Vote.most_yes hp] at this; exact this))
            have C := Lib.hid (CI.out false (decide_eq_false hq))
            clear hq CI
            go_wp2_with fail
            refine (C.out _).mono ?_; rintro e w' ⟨rfl, rfl⟩
            have := HB.out
            go_wp2
            go_ret
            exact ⟨by rw [HN.out]; rfl, bel⟩
        · by_cases hq : f K = 0
          · have HQ := Lib.hid hq
            rw [hq] at c0
            clear hq
            go_wp2
            go_roundw
            case rel =>
              refine ⟨K + 1, by omega, by go_num, HI.out, HB.out, fun j hj => ?_⟩
              by_cases e : j = K
              · subst e; rw [Vote.most_no hp, HQ.out]; omega
              · exact HA.out j (by omega)
            case measure => simp [intOf]; omega
          · have HN : Hid (Vote.ok n f = false) := Vote.ok_no (fun q => hq (by have := q.2.1 K hlt; rw [Vote.most_no hp] at this; omega))
            have e0 : (f K == 0) = false := by simp [hq]
            clear hq
            have := HB.out
            go_wp2
            go_ret
            exact ⟨by rw [HN.out]; rfl, bel⟩
      · obtain rfl : K = 8 := by omega
        have c8 := (hI.2 8 (by decide)).1
        have c9 := (hI.2 9 (by decide)).1
        have c10 := (hI.2 10 (by decide)).1
        have c11 := (hI.2 11 (by decide)).1
        have hz := hI.1
        have ht : Conf.tm n 2 = 2 * n := Conf.tm_yes HR.out
        have CB := Lib.hid (fun w => refBlock_val n _ ht w)
        have hok : Vote.ok n f = (decide (0 ≤ f 8 ∧ f 8 ≤ n - 1) && decide (0 ≤ f 9 ∧ f 9 ≤ 2 * n + 1) && decide (0 ≤ f 10 ∧ f 10 ≤ 2 * n) && decide (0 ≤ f 11 ∧ f 11 ≤ n - 1)) := by
          rw [Bool.eq_iff_iff]
          simp only [Vote.ok_iff, Bool.and_eq_true, decide_eq_true_eq]
          exact ⟨fun q => ⟨⟨⟨q.2.2.1, q.2.2.2.1⟩, q.2.2.2.2.1⟩, q.2.2.2.2.2⟩, fun q => ⟨h38, hall, q.1.1.1, q.1.1.2, q.1.2, q.2⟩⟩
        have HOK := Lib.hid hok
        clear hok
        generalize g8 : decide (0 ≤ f 8 ∧ f 8 ≤ n - 1) = b8 at HOK
        generalize g9 : decide (0 ≤ f 9 ∧ f 9 ≤ 2 * n + 1) = b9 at HOK
        generalize g10 : decide (0 ≤ f 10 ∧ f 10 ≤ 2 * n) = b10 at HOK
        generalize g11 : decide (0 ≤ f 11 ∧ f 11 ≤ n - 1) = b11 at HOK
        have C8 := Lib.hid (fun w => refIn_val (f 8) (n - 1) b8 g8 w)
        have C9 := Lib.hid (fun w => refIn_val (f 9) (2 * n + 1) b9 g9 w)
        have C10 := Lib.hid (fun w => refIn_val (f 10) (2 * n) b10 g10 w)
        have C11 := Lib.hid (fun w => refIn_val (f 11) (n - 1) b11 g11 w)
        have s1 : IntKind.i64.wrap (n - 1) = n - 1 := IntWalk.i64_in _ (by omega)
        have s2 : IntKind.i64.wrap (2 * n + 1) = 2 * n + 1 := IntWalk.i64_in _ (by omega)
        clear hb hall hI g8 g9 g10 g11 ht h38
        cases b8 <;> cases b9 <;> cases b10 <;> cases b11
        all_goals
          go_wp2_with fail
          go_quiet (first | with_reducible exact Calls.quiet_of_same (C8.out _) | with_reducible exact Calls.quiet_of_same (C9.out _) | with_reducible exact Calls.quiet_of_same (C10.out _) | with_reducible exact Calls.quiet_of_same (C11.out _) | with_reducible exact Calls.quiet_of_same (CB.out _))
          have := HB.out
          go_wp2
          go_ret
          exact ⟨by rw [HOK.out]; rfl, bel⟩
  · have h := Bool.eq_false_iff.2 h
    have HN : Hid (Vote.ok n f = false) := Vote.ok_no (fun q => by have := Conf.right_spec.2 q.1; rw [h] at this; cases this)
    go_enter Try.func16, Try.ntmps16
    go_wp2_with fail
    refine (refCright_any _ _).mono ?_; rintro e w' ⟨rfl, rfl⟩
    rw [h]
    go_wp2
    go_ret
    exact ⟨by rw [HN.out]; rfl, bel⟩
end Go.Proofs.Ytijgabippedhpaa
