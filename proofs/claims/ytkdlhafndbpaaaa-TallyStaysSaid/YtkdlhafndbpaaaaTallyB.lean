
import Derived.Test.YtkdlhafndbpaaaaRows
import Derived.Test.YtkdlhafndbpaaaaTallyA
import Derived.LoopTactic
namespace Go.Proofs.Ytkdlhafndbpaaaa
set_option linter.unusedVariables false
open Go.ChangeShapes Go.WideShapes Go.RowKit

theorem awake4_any (w : World) :
    Calls Try.prog 5 #[] w fun e w' => e = .returned (.bool true) ∧ w = w' := by
  have e1 : Tally.up 3 3 = 3 := by decide
  have e2 : Tally.up 2 3 = 3 := by decide
  have e3 : Tally.down 0 = 0 := by decide
  have e4 : Tally.clamp 9 0 4 = 4 := by decide
  go_enter Try.func5, Try.ntmps5
  go_wp2_with fail
  refine (up_any _ _ (by omega) (by omega) _).mono ?_; rintro e w' ⟨rfl, rfl⟩
  go_wp2_with fail
  refine (up_any _ _ (by omega) (by omega) _).mono ?_; rintro e w' ⟨rfl, rfl⟩
  go_wp2_with fail
  refine (down_any _ (by omega) _).mono ?_; rintro e w' ⟨rfl, rfl⟩
  go_wp2_with fail
  refine (clamp_any _ _ _ (by omega) (by omega) (by omega) _).mono ?_; rintro e w' ⟨rfl, rfl⟩
  go_wp2
  go_ret
  exact ⟨rfl, rfl⟩

theorem tallyTells_walk (c : Int) (hc : -9223372036854775808 ≤ c ∧ c ≤ 9223372036854775807) (l : Int) (hl : -9223372036854775808 ≤ l ∧ l ≤ 9223372036854775807) (m : Int) (hm : -9223372036854775808 ≤ m ∧ m ≤ 9223372036854775807) (w : World) :
    Calls Try.prog 3 #[.int .i64 c, .int .i64 l, .int .i64 m] w fun e w' => e = .returned (.bool true) ∧ Below w.heap.size w w' := by
  go_enter Try.func3, Try.ntmps3
  go_wp2_with fail
  refine (awake4_any _).mono ?_; rintro e w' ⟨rfl, rfl⟩
  go_wp2_with fail
  refine (up_any _ _ hc hm _).mono ?_; rintro e w' ⟨rfl, rfl⟩
  go_wp2_with fail
  refine (refUp_any _ _ hc hm _).mono ?_; rintro e w' ⟨rfl, rfl⟩
  go_wp2_with fail
  refine (down_any _ hc _).mono ?_; rintro e w' ⟨rfl, rfl⟩
  go_wp2_with fail
  refine (refDown_any _ hc _).mono ?_; rintro e w' ⟨rfl, rfl⟩
  go_wp2_with fail
  refine (clamp_any _ _ _ hc hl hm _).mono ?_; rintro e w' ⟨rfl, rfl⟩
  go_wp2_with fail
  refine (refClamp_any _ _ _ _).mono ?_; rintro e w' ⟨rfl, rfl⟩
  go_wp2
  go_ret
  exact ⟨rfl, (by with_reducible repeat (first | exact Below.refl _ _ | apply kalloc | apply kept_drewN | (refine kset ?_ (by first | (simp; done) | (simp; omega)) _) | assumption | (refine bthru (by assumption) ?_)))⟩

theorem up_min (k m : Int) (j : Nat) (h0 : 0 ≤ k) (h1 : k ≤ m) : Tally.up (min (k + (j : Int)) m) m = min (k + ((j + 1 : Nat) : Int)) m := by
  unfold Tally.up; (repeat split) <;> omega
theorem up_down (k m : Int) (h0 : 0 ≤ k) (h1 : k ≤ m) (h2 : (k == 0) = false) : Tally.up (Tally.down k) m = k := by
  simp at h2
  unfold Tally.up Tally.down; (repeat split) <;> omega
set_option maxHeartbeats 1000000 in
theorem tallyStays_walk (c : Int) (hc : -9223372036854775808 ≤ c ∧ c ≤ 9223372036854775807) (m : Nat) (hm : m < 256) (t : Nat) (ht : t < 256) (w : World) :
    Calls Try.prog 4 #[.int .i64 c, .int .u8 m, .int .u8 t] w fun e w' => e = .returned (.bool true) ∧ Below w.heap.size w w' := by
  have k0 : 0 ≤ Tally.clamp c 0 m := by unfold Tally.clamp; (repeat split) <;> omega
  have k1 : Tally.clamp c 0 m ≤ m := by unfold Tally.clamp; (repeat split) <;> omega
  go_enter Try.func4, Try.ntmps4
  go_wp2_with fail
  refine (clamp_any _ _ _ (by omega) (by omega) (by omega) _).mono ?_; rintro e w' ⟨rfl, rfl⟩
  generalize Tally.clamp c 0 m = k at *
  have D0 : 0 ≤ Tally.down k := by unfold Tally.down; (repeat split) <;> omega
  have D1 : Tally.down k ≤ m := by unfold Tally.down; (repeat split) <;> omega
  have DU := fun h => Lib.hid (up_down k m k0 k1 h)
  go_wp2_with fail
  go_loop [6, 9, 10] (fun r n i => ∃ j : Nat, j ≤ t ∧ r = .bool false ∧ i = .int .i64 j ∧ n = .int .i64 (min (k + (j : Int)) m)) (fun _ _ i => t - (intOf i).toNat)
  case atStart => exact ⟨0, by omega, rfl, rfl, by rw [show min (k + ((0 : Nat) : Int)) (m : Int) = k by omega]⟩
  case round =>
    obtain ⟨j, hj, rfl, rfl, rfl⟩ := hrel
    have U := Lib.hid (up_min k m j k0 k1)
    have g0 : 0 ≤ min (k + (j : Int)) m := by omega
    have g1 : min (k + (j : Int)) m ≤ m := by omega
    have E := Lib.hid (rfl : min (k + (j : Int)) m = min (k + (j : Int)) m)
    by_cases hlt : j < t
    · have v1 : min (k + ((j + 1 : Nat) : Int)) m ≤ m := by omega
      generalize hy : min (k + ((j + 1 : Nat) : Int)) m = y at *
      have Y := Lib.hid hy
      clear hy
      generalize min (k + (j : Int)) m = x at *
      go_wp2_with fail
      refine (up_any _ _ (by omega) (by omega) _).mono ?_; rintro e w' ⟨rfl, rfl⟩
      rw [U.out]
      go_wp2_with fail
      go_round
      case rel => exact ⟨j + 1, by omega, rfl, by go_num, by rw [Y.out]⟩
      case measure => simp [intOf]; omega
    · obtain rfl : j = t := by omega
      clear E U
      by_cases hs : k + (j : Int) ≤ m
      all_goals by_cases hk : (k == 0) = true
      · go_wp2_with fail
        refine (awake4_any _).mono ?_; rintro e w' ⟨rfl, rfl⟩
        go_wp2
        go_ret
        exact ⟨rfl, (by with_reducible repeat (first | exact Below.refl _ _ | apply kalloc | apply kept_drewN | (refine kset ?_ (by first | (simp; done) | (simp; omega)) _) | assumption | (refine bthru (by assumption) ?_)))⟩
      · have hk := Bool.eq_false_iff.2 hk
        have DU := DU hk
        go_wp2_with fail
        refine (awake4_any _).mono ?_; rintro e w' ⟨rfl, rfl⟩
        go_wp2_with fail
        refine (down_any _ (by omega) _).mono ?_; rintro e w' ⟨rfl, rfl⟩
        go_wp2_with fail
        refine (up_any _ _ (by omega) (by omega) _).mono ?_; rintro e w' ⟨rfl, rfl⟩
        rw [DU.out]
        go_wp2
        go_ret
        exact ⟨rfl, (by with_reducible repeat (first | exact Below.refl _ _ | apply kalloc | apply kept_drewN | (refine kset ?_ (by first | (simp; done) | (simp; omega)) _) | assumption | (refine bthru (by assumption) ?_)))⟩
      · go_wp2_with fail
        refine (awake4_any _).mono ?_; rintro e w' ⟨rfl, rfl⟩
        go_wp2
        go_ret
        exact ⟨rfl, (by with_reducible repeat (first | exact Below.refl _ _ | apply kalloc | apply kept_drewN | (refine kset ?_ (by first | (simp; done) | (simp; omega)) _) | assumption | (refine bthru (by assumption) ?_)))⟩
      · have hk := Bool.eq_false_iff.2 hk
        have DU := DU hk
        go_wp2_with fail
        refine (awake4_any _).mono ?_; rintro e w' ⟨rfl, rfl⟩
        go_wp2_with fail
        refine (down_any _ (by omega) _).mono ?_; rintro e w' ⟨rfl, rfl⟩
        go_wp2_with fail
        refine (up_any _ _ (by omega) (by omega) _).mono ?_; rintro e w' ⟨rfl, rfl⟩
        rw [DU.out]
        go_wp2
        go_ret
        exact ⟨rfl, (by with_reducible repeat (first | exact Below.refl _ _ | apply kalloc | apply kept_drewN | (refine kset ?_ (by first | (simp; done) | (simp; omega)) _) | assumption | (refine bthru (by assumption) ?_)))⟩
end Go.Proofs.Ytkdlhafndbpaaaa
