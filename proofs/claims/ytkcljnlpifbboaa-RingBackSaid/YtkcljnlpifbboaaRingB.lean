
import Derived.Test.YtkcljnlpifbboaaRows
import Derived.Test.YtkcljnlpifbboaaRingA
import Derived.LoopTactic
import Derived.Deep.QuietTactic
import Derived.BigQuiet
import Derived.RegionTactic
namespace Go.Proofs.Ytkcljnlpifbboaa
set_option linter.unusedVariables false
open Go.ChangeShapes Go.WideShapes Go.RowKit

theorem awake5_any (w : World) :
    Calls Try.prog 6 #[] w fun e w' => e = .returned (.bool true) ∧ w = w' := by
  go_enter Try.func6, Try.ntmps6
  go_wp2_with fail
  refine (at_any _ _ _ (by omega) (by omega) (by omega) (by omega) (by omega) (by omega) _).mono ?_; rintro e w' ⟨rfl, rfl⟩
  go_wp2_with fail
  refine (mod_any _ _ (by omega) (by omega) _).mono ?_; rintro e w' ⟨rfl, rfl⟩
  go_wp2_with fail
  refine (next_any _ _ (by omega) (by omega) (by omega) (by omega) _).mono ?_; rintro e w' ⟨rfl, rfl⟩
  go_wp2_with fail
  refine (ahead_any _ _ _ (by omega) (by omega) (by omega) (by omega) (by omega) (by omega) _).mono ?_; rintro e w' ⟨rfl, rfl⟩
  go_wp2
  go_ret
  exact ⟨rfl, rfl⟩

theorem ringBack_k (m a b : Int) (h : 1 ≤ m) (a0 : 0 ≤ a) (a1 : a < m) (b0 : 0 ≤ b) (b1 : b < m) :
    (a = b → (b - a) % m + (a - b) % m = 0) ∧ (a ≠ b → (b - a) % m + (a - b) % m = m) := by
  constructor
  · rintro rfl; simp
  · intro hab
    rcases Int.lt_or_gt_of_ne hab with h1 | h1
    · rw [Int.emod_eq_of_lt (a := b - a) (by omega) (by omega), ← Int.add_emod_right, Int.emod_eq_of_lt (by omega) (by omega)]; omega
    · rw [Int.emod_eq_of_lt (a := a - b) (by omega) (by omega), ← Int.add_emod_right, Int.emod_eq_of_lt (by omega) (by omega)]; omega


set_option maxHeartbeats 1000000 in
theorem ringTells_walk (n : Nat) (hn : n < 256) (x : Int) (hx : -9223372036854775808 ≤ x ∧ x ≤ 9223372036854775807) (i : Nat) (hi : i < 256) (k : Nat) (hk : k < 256) (g : Nat) (hg : g < 4294967296) (w : World) :
    Calls Try.prog 3 #[.agg #[.int .u8 n, .int .i64 x, .int .u8 i, .int .u8 k, .int .u32 g]] w fun e w' => e = .returned (.bool true) ∧ Below w.heap.size w w' := by
  go_enter Try.func3, Try.ntmps3
  go_wp2_with fail
  go_region
  go_wp2_with fail
  have m1 : (1 : Int) ≤ 1 + (n : Int) % 8 := by omega
  have m8 : 1 + (n : Int) % 8 ≤ 8 := by omega
  generalize 1 + (n : Int) % 8 = m at *
  have e1 : Int.tmod (i : Int) m = (i : Int) % m := Int.tmod_eq_emod_of_nonneg (by omega)
  have e2 : Int.tmod (k : Int) m = (k : Int) % m := Int.tmod_eq_emod_of_nonneg (by omega)
  have hm : (m == 0) = false := by simp; omega
  go_quiet (fail)
  clear e1 e2 hm
  have a0 := Int.emod_nonneg (i : Int) (b := m) (by omega)
  have a1 := Int.emod_lt_of_pos (i : Int) (b := m) (by omega)
  have b0 := Int.emod_nonneg (k : Int) (b := m) (by omega)
  have b1 := Int.emod_lt_of_pos (k : Int) (b := m) (by omega)
  generalize (i : Int) % m = a at *
  generalize (k : Int) % m = b at *
  go_wp2_with fail
  refine (awake5_any _).mono ?_; rintro e w' ⟨rfl, rfl⟩
  go_wp2_with fail
  refine (mod_any _ _ (by omega) (by omega) _).mono ?_; rintro e w' ⟨rfl, rfl⟩
  go_wp2_with fail
  refine (refMod_any _ _ (by omega) (by omega) _).mono ?_; rintro e w' ⟨rfl, rfl⟩
  go_wp2_with fail
  refine (next_any _ _ (by omega) (by omega) (by omega) (by omega) _).mono ?_; rintro e w' ⟨rfl, rfl⟩
  go_wp2_with fail
  refine (refNext_any _ _ (by omega) (by omega) (by omega) (by omega) _).mono ?_; rintro e w' ⟨rfl, rfl⟩
  go_wp2_with fail
  refine (at_any _ _ _ (by omega) (by omega) (by omega) (by omega) (by omega) (by omega) _).mono ?_; rintro e w' ⟨rfl, rfl⟩
  go_wp2_with fail
  refine (refAt_any _ _ _ (by omega) (by omega) (by omega) (by omega) (by omega) (by omega) _).mono ?_; rintro e w' ⟨rfl, rfl⟩
  go_wp2_with fail
  refine (ahead_any _ _ _ (by omega) (by omega) (by omega) (by omega) (by omega) (by omega) _).mono ?_; rintro e w' ⟨rfl, rfl⟩
  go_wp2_with fail
  refine (refAhead_any _ _ _ (by omega) (by omega) (by omega) (by omega) (by omega) (by omega) _).mono ?_; rintro e w' ⟨rfl, rfl⟩
  go_wp2
  go_ret
  exact ⟨rfl, (by with_reducible repeat (first | exact Below.refl _ _ | apply kalloc | apply kept_drewN | (refine kset ?_ (by first | (simp; done) | (simp; omega)) _) | assumption | (refine bthru (by assumption) ?_)))⟩

theorem ring_there (m a b : Int) (h : 1 ≤ m) (b0 : 0 ≤ b) (b1 : b < m) : (a + (b - a) % m) % m = b := by
  rw [Int.add_emod_emod, show a + (b - a) = b by omega, Int.emod_eq_of_lt b0 b1]
theorem ring_step (m a : Int) (j : Nat) : ((a + (j : Int)) % m + 1) % m = (a + ((j + 1 : Nat) : Int)) % m := by
  rw [Int.emod_add_emod]; congr 1; omega
set_option maxHeartbeats 1000000 in
theorem ringGoes_walk (n : Nat) (hn : n < 256) (i : Nat) (hi : i < 256) (k : Nat) (hk : k < 256) (w : World) :
    Calls Try.prog 4 #[.int .u8 n, .int .u8 i, .int .u8 k] w fun e w' => e = .returned (.bool true) ∧ Below w.heap.size w w' := by
  go_enter Try.func4, Try.ntmps4
  go_wp2_with fail
  have m1 : (1 : Int) ≤ 1 + (n : Int) % 8 := by omega
  have m8 : 1 + (n : Int) % 8 ≤ 8 := by omega
  generalize 1 + (n : Int) % 8 = m at *
  have e1 : Int.tmod (i : Int) m = (i : Int) % m := Int.tmod_eq_emod_of_nonneg (by omega)
  have e2 : Int.tmod (k : Int) m = (k : Int) % m := Int.tmod_eq_emod_of_nonneg (by omega)
  have hm : (m == 0) = false := by simp; omega
  go_quiet (fail)
  clear e1 e2 hm
  have a0 := Int.emod_nonneg (i : Int) (b := m) (by omega)
  have a1 := Int.emod_lt_of_pos (i : Int) (b := m) (by omega)
  have b0 := Int.emod_nonneg (k : Int) (b := m) (by omega)
  have b1 := Int.emod_lt_of_pos (k : Int) (b := m) (by omega)
  generalize (i : Int) % m = a at *
  generalize (k : Int) % m = b at *
  go_wp2_with fail
  refine (ahead_any _ _ _ (by omega) (by omega) (by omega) (by omega) (by omega) (by omega) _).mono ?_; rintro e w' ⟨rfl, rfl⟩
  have q0 := Int.emod_nonneg (b - a) (b := m) (by omega)
  have q1 := Int.emod_lt_of_pos (b - a) (b := m) (by omega)
  have E1 := Lib.hid (ring_there m a b m1 b0 b1)
  have E2 := Lib.hid (show (a - m) % m = a by rw [Int.sub_emod_right, Int.emod_eq_of_lt a0 a1])
  have E3 := Lib.hid (show (a + m) % m = a by rw [Int.add_emod_right, Int.emod_eq_of_lt a0 a1])
  generalize (b - a) % m = q at *
  have E4 := Lib.hid (show (a + ((0 : Nat) : Int)) % m = a by rw [Int.natCast_zero, Int.add_zero, Int.emod_eq_of_lt a0 a1])
  go_wp2_with fail
  go_loop [11, 12] (fun c i => ∃ j : Nat, (j : Int) ≤ q ∧ i = .int .i64 j ∧ c = .int .i64 ((a + (j : Int)) % m)) (fun _ i => q.toNat - (intOf i).toNat)
  case atStart => exact ⟨0, by omega, rfl, by rw [E4.out]⟩
  case round =>
    obtain ⟨j, hj, rfl, rfl⟩ := hrel
    by_cases hlt : (j : Int) < q
    · have U := Lib.hid (ring_step m a j)
      have c0 := Int.emod_nonneg (a + (j : Int)) (b := m) (by omega)
      have c1 := Int.emod_lt_of_pos (a + (j : Int)) (b := m) (by omega)
      generalize (a + (j : Int)) % m = c at *
      go_wp2_with fail
      refine (next_any _ _ (by omega) (by omega) (by omega) (by omega) _).mono ?_; rintro e w' ⟨rfl, rfl⟩
      rw [U.out]
      go_wp2_with fail
      go_round
      case rel => exact ⟨j + 1, by omega, by go_num, rfl⟩
      case measure => simp [intOf]; omega
    · obtain rfl : (j : Int) = q := by omega
      rw [E1.out]
      go_wp2_with fail
      refine (awake5_any _).mono ?_; rintro e w' ⟨rfl, rfl⟩
      go_wp2_with fail
      refine (at_any _ _ _ (by omega) (by omega) (by omega) (by omega) (by omega) (by omega) _).mono ?_; rintro e w' ⟨rfl, rfl⟩
      rw [E1.out]
      go_wp2_with fail
      refine (mod_any _ _ (by omega) (by omega) _).mono ?_; rintro e w' ⟨rfl, rfl⟩
      rw [E2.out]
      go_wp2_with fail
      refine (at_any _ _ _ (by omega) (by omega) (by omega) (by omega) (by omega) (by omega) _).mono ?_; rintro e w' ⟨rfl, rfl⟩
      rw [E3.out]
      go_wp2
      go_ret
      exact ⟨rfl, (by with_reducible repeat (first | exact Below.refl _ _ | apply kalloc | apply kept_drewN | (refine kset ?_ (by first | (simp; done) | (simp; omega)) _) | assumption | (refine bthru (by assumption) ?_)))⟩
set_option maxHeartbeats 1000000 in
theorem ringBack_walk (n : Nat) (hn : n < 256) (i : Nat) (hi : i < 256) (k : Nat) (hk : k < 256) (r : Nat) (hr : r < 65536) (w : World) :
    Calls Try.prog 5 #[.agg #[.int .u8 n, .int .u8 i, .int .u8 k, .int .u16 r]] w fun e w' => e = .returned (.bool true) ∧ Below w.heap.size w w' := by
  go_enter Try.func5, Try.ntmps5
  go_wp2_with fail
  go_quiet (fail)
  go_wp2_with fail
  have m1 : (1 : Int) ≤ 1 + (n : Int) % 8 := by omega
  have m8 : 1 + (n : Int) % 8 ≤ 8 := by omega
  generalize 1 + (n : Int) % 8 = m at *
  have e1 : Int.tmod (i : Int) m = (i : Int) % m := Int.tmod_eq_emod_of_nonneg (by omega)
  have e2 : Int.tmod (k : Int) m = (k : Int) % m := Int.tmod_eq_emod_of_nonneg (by omega)
  have hm : (m == 0) = false := by simp; omega
  go_quiet (fail)
  clear e1 e2 hm
  have a0 := Int.emod_nonneg (i : Int) (b := m) (by omega)
  have a1 := Int.emod_lt_of_pos (i : Int) (b := m) (by omega)
  have b0 := Int.emod_nonneg (k : Int) (b := m) (by omega)
  have b1 := Int.emod_lt_of_pos (k : Int) (b := m) (by omega)
  generalize (i : Int) % m = a at *
  generalize (k : Int) % m = b at *
  have p0 : 0 ≤ m * (r : Int) := Int.mul_nonneg (by omega) (by omega)
  have p1 : m * (r : Int) ≤ 8 * (r : Int) := Int.mul_le_mul_of_nonneg_right (by omega) (by omega)
  have E := Lib.hid (show (a + ((k : Int) + m * (r : Int))) % m = (a + (k : Int)) % m by rw [← Int.add_assoc, Int.add_mul_emod_self_left])
  obtain ⟨k0, k1⟩ := ringBack_k m a b m1 a0 a1 b0 b1
  have c0 := Int.emod_nonneg (b - a) (b := m) (by omega)
  have c1 := Int.emod_lt_of_pos (b - a) (b := m) (by omega)
  have d0 := Int.emod_nonneg (a - b) (b := m) (by omega)
  have d1 := Int.emod_lt_of_pos (a - b) (b := m) (by omega)
  generalize hp : m * (r : Int) = p at *
  have hp := Lib.hid hp
  go_wp2_with fail
  refine (ahead_any _ _ _ (by omega) (by omega) (by omega) (by omega) (by omega) (by omega) _).mono ?_; rintro e w' ⟨rfl, rfl⟩
  go_wp2_with fail
  refine (ahead_any _ _ _ (by omega) (by omega) (by omega) (by omega) (by omega) (by omega) _).mono ?_; rintro e w' ⟨rfl, rfl⟩
  generalize (b - a) % m = c at *
  generalize (a - b) % m = d at *
  by_cases hab : a = b
  · have k0 := k0 hab
    clear k1
    subst hab
    obtain rfl : c = 0 := by omega
    obtain rfl : d = 0 := by omega
    go_wp2_with fail
    refine (awake5_any _).mono ?_; rintro e w' ⟨rfl, rfl⟩
    by_cases hz : ((0 : Int) == m) = true
    · exfalso; simp at hz; omega
    · have hz := Bool.eq_false_iff.2 hz
      go_wp2_with fail
      refine (at_any _ _ _ (by omega) (by omega) (by omega) (by omega) (by omega) (by omega) _).mono ?_; rintro e w' ⟨rfl, rfl⟩
      rw [E.out]
      go_wp2_with fail
      refine (at_any _ _ _ (by omega) (by omega) (by omega) (by omega) (by omega) (by omega) _).mono ?_; rintro e w' ⟨rfl, rfl⟩
      go_wp2
      go_ret
      exact ⟨rfl, (by with_reducible repeat (first | exact Below.refl _ _ | apply kalloc | apply kept_drewN | (refine kset ?_ (by first | (simp; done) | (simp; omega)) _) | assumption | (refine bthru (by assumption) ?_)))⟩
  · have k1 := k1 hab
    clear k0
    have he : (c + d == m) = true := by simp; omega
    have hn : (a != b) = true := by simp; omega
    go_wp2_with fail
    refine (awake5_any _).mono ?_; rintro e w' ⟨rfl, rfl⟩
    go_wp2_with fail
    refine (at_any _ _ _ (by omega) (by omega) (by omega) (by omega) (by omega) (by omega) _).mono ?_; rintro e w' ⟨rfl, rfl⟩
    rw [E.out]
    go_wp2_with fail
    refine (at_any _ _ _ (by omega) (by omega) (by omega) (by omega) (by omega) (by omega) _).mono ?_; rintro e w' ⟨rfl, rfl⟩
    go_wp2
    go_ret
    exact ⟨rfl, (by with_reducible repeat (first | exact Below.refl _ _ | apply kalloc | apply kept_drewN | (refine kset ?_ (by first | (simp; done) | (simp; omega)) _) | assumption | (refine bthru (by assumption) ?_)))⟩
end Go.Proofs.Ytkcljnlpifbboaa
