
import Derived.Test.YtcgpmclcleenhaaRows
import Derived.Test.YtcgpmclcleenhaaConfB
import Derived.Deep.QuietTactic
import Derived.BigQuiet
import Derived.RegionTactic
namespace Go.Proofs.Ytcgpmclcleenhaa
set_option linter.unusedVariables false
open Go.ChangeShapes Go.WideShapes Go.RowKit

set_option maxHeartbeats 1000000 in
theorem confTells_walk (n : Int) (hn : -9223372036854775808 ≤ n ∧ n ≤ 9223372036854775807) (i : Int) (hi : -9223372036854775808 ≤ i ∧ i ≤ 9223372036854775807) (w : World) :
    Calls Try.prog 3 #[.int .i64 n, .int .i64 i] w fun e w' => e = .returned (.bool true) ∧ Below w.heap.size w w' := by
  go_enter Try.func3, Try.ntmps3
  go_wp2_with fail
  refine (cListen_any _ _ _).mono ?_; rintro e w1 ⟨rfl, hb⟩; obtain ⟨hc, hf, hz⟩ := bcall hb; try simp only [World.size_alloc, World.heap_drewN] at hz
  go_wp2_with fail
  refine (refCListen_any _ _ _).mono ?_; rintro e w' ⟨rfl, rfl⟩
  go_wp2_with fail
  refine (cCold_any _ _ _).mono ?_; rintro e w1 ⟨rfl, hb⟩; obtain ⟨hc, hf, hz⟩ := bcall hb; try simp only [World.size_alloc, World.heap_drewN] at hz
  go_wp2_with fail
  refine (refCCold_any _ _ _).mono ?_; rintro e w' ⟨rfl, rfl⟩
  go_wp2_with fail
  refine (awake3_any _).mono ?_; rintro e w1 ⟨rfl, hb⟩; obtain ⟨hc, hf, hz⟩ := bcall hb; try simp only [World.size_alloc, World.heap_drewN] at hz
  go_wp2_with fail
  refine (cright_any _ _).mono ?_; rintro e w' ⟨rfl, rfl⟩
  go_wp2_with fail
  refine (refCright_any _ _).mono ?_; rintro e w' ⟨rfl, rfl⟩
  go_wp2_with fail
  refine (cBlock_any _ _).mono ?_; rintro e w1 ⟨rfl, hb⟩; obtain ⟨hc, hf, hz⟩ := bcall hb; try simp only [World.size_alloc, World.heap_drewN] at hz
  go_wp2_with fail
  refine (refCBlock_any _ _).mono ?_; rintro e w' ⟨rfl, rfl⟩
  go_wp2_with fail
  refine (cWatch_any _ _).mono ?_; rintro e w1 ⟨rfl, hb⟩; obtain ⟨hc, hf, hz⟩ := bcall hb; try simp only [World.size_alloc, World.heap_drewN] at hz
  go_wp2_with fail
  refine (refCWatch_any _ _).mono ?_; rintro e w' ⟨rfl, rfl⟩
  go_wp2_with fail
  refine (cLater_any _ _).mono ?_; rintro e w1 ⟨rfl, hb⟩; obtain ⟨hc, hf, hz⟩ := bcall hb; try simp only [World.size_alloc, World.heap_drewN] at hz
  go_wp2_with fail
  refine (refCLater_any _ _).mono ?_; rintro e w' ⟨rfl, rfl⟩
  go_wp2_with fail
  refine (cStart_any _ _).mono ?_; rintro e w1 ⟨rfl, hb⟩; obtain ⟨hc, hf, hz⟩ := bcall hb; try simp only [World.size_alloc, World.heap_drewN] at hz
  go_wp2_with fail
  refine (refCStart_any _ _).mono ?_; rintro e w' ⟨rfl, rfl⟩
  go_wp2_with fail
  refine (cStable_any _ _).mono ?_; rintro e w1 ⟨rfl, hb⟩; obtain ⟨hc, hf, hz⟩ := bcall hb; try simp only [World.size_alloc, World.heap_drewN] at hz
  go_wp2_with fail
  refine (refCStable_any _ _).mono ?_; rintro e w' ⟨rfl, rfl⟩
  go_wp2
  go_ret
  exact ⟨rfl, (by with_reducible repeat (first | exact Below.refl _ _ | apply kalloc | apply kept_drewN | (refine kset ?_ (by first | (simp; done) | (simp; omega)) _) | assumption | (refine bthru (by assumption) ?_)))⟩

theorem unlike_own (m a f : Int) (h3 : 3 ≤ m) (h8 : m ≤ 8) (a0 : 0 ≤ a) (a1 : a < m) : Conf.own m a f = f * m + 1 + a :=
  Conf.own_yes (Conf.right_spec.2 ⟨h3, h8⟩) ⟨a0, a1⟩
theorem unlike_err (m a : Int) (h3 : 3 ≤ m) (h8 : m ≤ 8) (a0 : 0 ≤ a) (a1 : a < m) : Conf.err m a = 0 :=
  Conf.err_yes (Conf.right_spec.2 ⟨h3, h8⟩) ⟨a0, a1⟩
set_option maxHeartbeats 1000000 in
theorem confUnlike_walk (n : Nat) (hn : n < 256) (i : Nat) (hi : i < 256) (k : Nat) (hk : k < 256) (w : World) :
    Calls Try.prog 4 #[.int .u8 n, .int .u8 i, .int .u8 k] w fun e w' => e = .returned (.bool true) ∧ Below w.heap.size w w' := by
  go_enter Try.func4, Try.ntmps4
  go_wp2_with fail
  have m3 : (3 : Int) ≤ 3 + (n : Int) % 6 := by omega
  have m8 : 3 + (n : Int) % 6 ≤ 8 := by omega
  generalize 3 + (n : Int) % 6 = m at *
  have e1 : Int.tmod (i : Int) m = (i : Int) % m := Int.tmod_eq_emod_of_nonneg (by omega)
  have e2 : Int.tmod (k : Int) m = (k : Int) % m := Int.tmod_eq_emod_of_nonneg (by omega)
  have hm : (m == 0) = false := by simp; omega
  go_quiet (fail)
  clear e1 e2 hm
  have a0 := Int.emod_nonneg (i : Int) (b := m) (by omega)
  have a1 := Int.emod_lt_of_pos (i : Int) (b := m) (by omega)
  have b0 := Int.emod_nonneg (k : Int) (b := m) (by omega)
  have b1 := Int.emod_lt_of_pos (k : Int) (b := m) (by omega)
  generalize (i : Int) % m = a at *
  generalize (k : Int) % m = b at *
  have X4 := Lib.hid (unlike_own m a 4 m3 m8 a0 a1)
  have Y4 := Lib.hid (unlike_own m b 4 m3 m8 b0 b1)
  have X2 := Lib.hid (unlike_own m a 2 m3 m8 a0 a1)
  have Y2 := Lib.hid (unlike_own m b 2 m3 m8 b0 b1)
  have T := fun f => Lib.hid (Conf.tm_yes (f := f) (Conf.right_spec.2 ⟨m3, m8⟩))
  have TB := T 2
  have TW := T 8
  have TS := T 40
  have TT := T 96
  clear T
  go_wp2_with fail
  refine (cListen_any _ _ _).mono ?_; rintro e w1 ⟨rfl, hb⟩; obtain ⟨hc, hf, hz⟩ := bcall hb; try simp only [World.size_alloc, World.heap_drewN] at hz
  rw [X4.out]
  go_wp2_with fail
  refine (cListen_any _ _ _).mono ?_; rintro e w1 ⟨rfl, hb⟩; obtain ⟨hc, hf, hz⟩ := bcall hb; try simp only [World.size_alloc, World.heap_drewN] at hz
  rw [Y4.out]
  go_wp2_with fail
  refine (cCold_any _ _ _).mono ?_; rintro e w1 ⟨rfl, hb⟩; obtain ⟨hc, hf, hz⟩ := bcall hb; try simp only [World.size_alloc, World.heap_drewN] at hz
  rw [X2.out]
  go_wp2_with fail
  refine (cCold_any _ _ _).mono ?_; rintro e w1 ⟨rfl, hb⟩; obtain ⟨hc, hf, hz⟩ := bcall hb; try simp only [World.size_alloc, World.heap_drewN] at hz
  rw [Y2.out]
  go_wp2_with fail
  refine (awake3_any _).mono ?_; rintro e w1 ⟨rfl, hb⟩; obtain ⟨hc, hf, hz⟩ := bcall hb; try simp only [World.size_alloc, World.heap_drewN] at hz
  have u1 : 2 * m < 2 * m + 1 + a := by omega
  have u2 : 2 * m + 1 + b < 4 * m + 1 + a := by omega
  have u3 : 4 * m + 1 + b < 8 * m := by omega
  have u4 : 8 * m < 40 * m := by omega
  have u5 : 40 * m < 96 * m := by omega
  by_cases hab : a = b
  · subst hab
    go_wp2_with fail
    refine (cBlock_any _ _).mono ?_; rintro e w1 ⟨rfl, hb⟩; obtain ⟨hc, hf, hz⟩ := bcall hb; try simp only [World.size_alloc, World.heap_drewN] at hz
    rw [TB.out]
    go_wp2_with fail
    refine (cWatch_any _ _).mono ?_; rintro e w1 ⟨rfl, hb⟩; obtain ⟨hc, hf, hz⟩ := bcall hb; try simp only [World.size_alloc, World.heap_drewN] at hz
    rw [TW.out]
    go_wp2_with fail
    refine (cStart_any _ _).mono ?_; rintro e w1 ⟨rfl, hb⟩; obtain ⟨hc, hf, hz⟩ := bcall hb; try simp only [World.size_alloc, World.heap_drewN] at hz
    rw [TS.out]
    go_wp2_with fail
    refine (cWatch_any _ _).mono ?_; rintro e w1 ⟨rfl, hb⟩; obtain ⟨hc, hf, hz⟩ := bcall hb; try simp only [World.size_alloc, World.heap_drewN] at hz
    rw [TW.out]
    go_wp2_with fail
    refine (cStable_any _ _).mono ?_; rintro e w1 ⟨rfl, hb⟩; obtain ⟨hc, hf, hz⟩ := bcall hb; try simp only [World.size_alloc, World.heap_drewN] at hz
    rw [TT.out]
    go_wp2_with fail
    refine (cStart_any _ _).mono ?_; rintro e w1 ⟨rfl, hb⟩; obtain ⟨hc, hf, hz⟩ := bcall hb; try simp only [World.size_alloc, World.heap_drewN] at hz
    rw [TS.out]
    go_wp2
    go_ret
    exact ⟨rfl, (by with_reducible repeat (first | exact Below.refl _ _ | apply kalloc | apply kept_drewN | (refine kset ?_ (by first | (simp; done) | (simp; omega)) _) | assumption | (refine bthru (by assumption) ?_)))⟩
  · have q1 : (4 * m + 1 + a == 4 * m + 1 + b) = false := by simp; omega
    have q2 : (2 * m + 1 + a == 2 * m + 1 + b) = false := by simp; omega
    go_wp2_with fail
    refine (cBlock_any _ _).mono ?_; rintro e w1 ⟨rfl, hb⟩; obtain ⟨hc, hf, hz⟩ := bcall hb; try simp only [World.size_alloc, World.heap_drewN] at hz
    rw [TB.out]
    go_wp2_with fail
    refine (cWatch_any _ _).mono ?_; rintro e w1 ⟨rfl, hb⟩; obtain ⟨hc, hf, hz⟩ := bcall hb; try simp only [World.size_alloc, World.heap_drewN] at hz
    rw [TW.out]
    go_wp2_with fail
    refine (cStart_any _ _).mono ?_; rintro e w1 ⟨rfl, hb⟩; obtain ⟨hc, hf, hz⟩ := bcall hb; try simp only [World.size_alloc, World.heap_drewN] at hz
    rw [TS.out]
    go_wp2_with fail
    refine (cWatch_any _ _).mono ?_; rintro e w1 ⟨rfl, hb⟩; obtain ⟨hc, hf, hz⟩ := bcall hb; try simp only [World.size_alloc, World.heap_drewN] at hz
    rw [TW.out]
    go_wp2_with fail
    refine (cStable_any _ _).mono ?_; rintro e w1 ⟨rfl, hb⟩; obtain ⟨hc, hf, hz⟩ := bcall hb; try simp only [World.size_alloc, World.heap_drewN] at hz
    rw [TT.out]
    go_wp2_with fail
    refine (cStart_any _ _).mono ?_; rintro e w1 ⟨rfl, hb⟩; obtain ⟨hc, hf, hz⟩ := bcall hb; try simp only [World.size_alloc, World.heap_drewN] at hz
    rw [TS.out]
    go_wp2
    go_ret
    exact ⟨ret_bool (by simp [hab]), (by with_reducible repeat (first | exact Below.refl _ _ | apply kalloc | apply kept_drewN | (refine kset ?_ (by first | (simp; done) | (simp; omega)) _) | assumption | (refine bthru (by assumption) ?_)))⟩
end Go.Proofs.Ytcgpmclcleenhaa
