
import Derived.Test.YtjhkkpjekglkoaaRows
import Derived.Test.YtjhkkpjekglkoaaWireD
import Derived.BigQuiet
namespace Go.Proofs.Ytjhkkpjekglkoaa
set_option linter.unusedVariables false
open Go.ChangeShapes Go.WideShapes Go.RowKit

theorem frame_kind (a b : Value) (w : World) : (Instr.field 23 (.agg #[a, b]) 0).run Try.prog w = .ok a w := by kernel_rfl
theorem frame_id (a b : Value) (w : World) : (Instr.field 23 (.agg #[a, b]) 1).run Try.prog w = .ok b w := by kernel_rfl
theorem put_lit (w : World) :
    Calls Try.prog 9 #[.agg #[.int .i64 1, .int .i64 1]] w fun e w' => e = .returned (.string ⟨#[216, 1, 1, 18, 199, 188, 77]⟩) ∧ Below w.heap.size w w' := by
  have h := put_right 1 1 (by decide +kernel) w
  have e : Wire.bytes (1 : Int).toNat 1 = [216, 1, 1, 18, 199, 188, 77] := by decide +kernel
  rw [e] at h
  exact h
theorem get_lit (w : World) :
    Calls Try.prog 11 #[.string ⟨#[216, 1, 1, 18, 199, 188, 77]⟩] w fun E w' => E = .returned (.agg #[.int .i64 1, .int .i64 1]) ∧ Below w.heap.size w w' := by
  have h := get_any ⟨#[216, 1, 1, 18, 199, 188, 77]⟩ (by decide +kernel) w
  have e1 : Wire.kind (ByteArray.mk #[216, 1, 1, 18, 199, 188, 77]).data.toList = 1 := by decide +kernel
  have e2 : Wire.id_ (ByteArray.mk #[216, 1, 1, 18, 199, 188, 77]).data.toList = 1 := by decide +kernel
  rw [e1, e2] at h
  exact h
theorem awake2_any (w : World) :
    Calls Try.prog 6 #[] w fun e w' => e = .returned (.bool true) ∧ Below w.heap.size w w' := by
  go_enter Try.func6, Try.ntmps6
  go_wp2_with fail
  refine (put_lit _).mono ?_; rintro e w1 ⟨rfl, hb⟩; obtain ⟨hc, hf, hz⟩ := bcall hb; try simp only [World.size_alloc, World.heap_drewN] at hz
  go_wp2_with fail
  refine (get_lit _).mono ?_; rintro e w1 ⟨rfl, hb⟩; obtain ⟨hc, hf, hz⟩ := bcall hb; try simp only [World.size_alloc, World.heap_drewN] at hz
  go_wp2_with fail
  refine (get_nil _).mono ?_; rintro e w1 ⟨rfl, hb⟩; obtain ⟨hc, hf, hz⟩ := bcall hb; try simp only [World.size_alloc, World.heap_drewN] at hz
  go_wp2
  go_ret
  exact ⟨rfl, (by with_reducible repeat (first | exact Below.refl _ _ | apply kalloc | apply kept_drewN | (refine kset ?_ (by first | (simp; done) | (simp; omega)) _) | assumption | (refine bthru (by assumption) ?_)))⟩
theorem wireTells_big (k i : Int) (s : ByteArray) (h : decide ((100 : Int) < s.size) = true) (w : World) :
    Calls Try.prog 3 #[.agg #[.int .i64 k, .int .i64 i], .string s] w fun e w' => e = .returned (.bool true) ∧ Below w.heap.size w w' := by
  go_enter Try.func3, Try.ntmps3
  go_wp2_with fail
  refine (awake2_any _).mono ?_; rintro e w1 ⟨rfl, hb⟩; obtain ⟨hc, hf, hz⟩ := bcall hb; try simp only [World.size_alloc, World.heap_drewN] at hz
  go_wp2
  go_ret
  exact ⟨rfl, (by with_reducible repeat (first | exact Below.refl _ _ | apply kalloc | apply kept_drewN | (refine kset ?_ (by first | (simp; done) | (simp; omega)) _) | assumption | (refine bthru (by assumption) ?_)))⟩
theorem wireTells_small (k i : Int) (s : ByteArray) (hs : s.size ≤ maxLen) (h : decide ((100 : Int) < s.size) = false) (w : World) :
    Calls Try.prog 3 #[.agg #[.int .i64 k, .int .i64 i], .string s] w fun e w' => e = .returned (.bool true) ∧ Below w.heap.size w w' := by
  go_enter Try.func3, Try.ntmps3
  go_wp2_with fail
  refine region_below (by kernel_rfl) (by kernel_rfl) ?_; intro wR HW
  have k0 := cell_regrown (w := wR) (a := ⟨w.heap.size, 0, none⟩) (v := .int .i64 k) (by rw [← HW.out]; simp [go_sem])
  have k1 := cell_regrown (w := wR) (a := ⟨w.heap.size, 1, none⟩) (v := .int .i64 i) (by rw [← HW.out]; simp [go_sem])
  (repeat (quiet_step (first | exact Calls.regrown_of (awake2_any _) | exact Calls.regrown_of (wright_any _ _ _) | exact Calls.regrown_of (refWright_any _ _ _) | exact Calls.regrown_of (put_any _ _ _) | exact Calls.regrown_of (refPut_any _ _ _) | exact Calls.regrown_of (get_any _ hs _) | exact Calls.regrown_of (refGet_any _ _)))); refine wpQuiet_nil ?_; intro w2 hb2
  rw [← HW.out] at hb2
  go_wp2
  go_ret
  exact ⟨rfl, (by with_reducible repeat (first | exact Below.refl _ _ | apply kalloc | apply kept_drewN | (refine kset ?_ (by first | (simp; done) | (simp; omega)) _) | assumption | (refine bthru (by assumption) ?_)))⟩
end Go.Proofs.Ytjhkkpjekglkoaa
