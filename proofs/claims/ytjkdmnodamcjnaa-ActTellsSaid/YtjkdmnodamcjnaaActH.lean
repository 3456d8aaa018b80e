
import Derived.Test.YtjkdmnodamcjnaaRows
import Derived.Test.YtjkdmnodamcjnaaActG
import Derived.LoopTactic
import Derived.LoopN
import Derived.Deep.QuietTactic
import Derived.BigQuiet
import Derived.RegionTactic
import Derived.Deep.RegionHeld3
namespace Go.Proofs.Ytjkdmnodamcjnaa
set_option linter.unusedVariables false
set_option linter.unusedSimpArgs false
open Go.ChangeShapes Go.WideShapes Go.RowKit

theorem awake9_any (w : World) :
    Calls Try.prog 8 #[] w fun e w' => e = .returned (.bool true) ∧ Below w.heap.size w w' := by
  have C1 := Lib.hid (fun w => actStep_any 4 0 2 0 0 1 1 0 0 (by decide +kernel) w)
  have C2 := Lib.hid (fun w => actStep_any 4 0 0 0 0 0 0 0 0 (by decide +kernel) w)
  rw [show Act.val (Act.next 4 0 2 0 0 1 1 0 0) = .agg #[.int .i64 0, .int .i64 3, .int .i64 0, .int .i64 2] by kernel_rfl, show Act.err 4 0 2 0 0 = 0 by decide +kernel] at C1
  rw [show Act.val (Act.next 4 0 0 0 0 0 0 0 0) = .agg #[.int .i64 0, .int .i64 0, .int .i64 0, .int .i64 0] by kernel_rfl, show Act.err 4 0 0 0 0 = 1 by decide +kernel] at C2
  go_enter Try.func8, Try.ntmps8
  go_wp2_with fail
  refine (C1.out _).mono ?_; rintro e wa ⟨rfl, hb⟩; have hz := hb.size; (try simp only [World.size_alloc, World.heap_drewN, World.size_drew, World.size_setCell] at hz)
  have HB1 := Lib.hid (show Below w.heap.size w wa from bel)
  clear hb
  go_wp2_with fail
  refine (C2.out _).mono ?_; rintro e wb ⟨rfl, hb⟩; have hz := hb.size; (try simp only [World.size_alloc, World.heap_drewN, World.size_drew, World.size_setCell] at hz)
  have HB2 := Lib.hid (show Below w.heap.size w wb from by have := HB1.out; exact bel)
  have z_ra : (wa.heap.size) < wb.heap.size := (by omega); replace ra : wb.rangeAt (wa.heap.size) 0 [.int .i64 0, .int .i64 3, .int .i64 0, .int .i64 2] := rng
  clear hb
  replace ra_0 := range_cell ra 0 rfl; replace ra_1 := range_cell ra 1 rfl; replace ra_2 := range_cell ra 2 rfl; replace ra_3 := range_cell ra 3 rfl
  have := HB2.out
  go_wp2
  go_ret
  exact ⟨rfl, bel⟩
theorem Act.heard_iff {n k0 i0 k1 i1 : Int} : Act.heard n k0 i0 k1 i1 = true ↔ (k0 = 0 ∧ i0 = 0 ∨ (k0 = 1 ∨ k0 = 2) ∧ 0 ≤ i0 ∧ i0 < n) ∧ (k1 = 0 ∧ i1 = 0 ∨ (k1 = 1 ∨ k1 = 2) ∧ 0 ≤ i1 ∧ i1 < n) := by
  unfold Act.heard Act.heard1
  simp
set_option maxHeartbeats 2000000 in
theorem refHeard_any (n k0 i0 k1 i1 : Int) (w : World) :
    Calls Try.prog 7 #[.int .i64 n, .agg #[.int .i64 k0, .int .i64 i0, .int .i64 k1, .int .i64 i1]] w fun e w' => e = .returned (.bool (Act.heard n k0 i0 k1 i1)) ∧ Below w.heap.size w w' := by
  go_enter Try.func7, Try.ntmps7
  go_wp2_with fail
  refine wp_loop_rounds 3 ?_
  rw [rounds_succ]
  go_wp2_with fail
  all_goals first | (go_ret; (first | exact ⟨ret_bool (show false = _ from (Bool.eq_false_iff.2 (fun h => by have := Act.heard_of h; omega)).symm), bel⟩ | exact ⟨ret_bool (show true = _ from (Act.heard_iff.2 (by omega)).symm), bel⟩)) | (rw [rounds_succ]; go_wp2_with fail; all_goals first | (go_ret; (first | exact ⟨ret_bool (show false = _ from (Bool.eq_false_iff.2 (fun h => by have := Act.heard_of h; omega)).symm), bel⟩ | exact ⟨ret_bool (show true = _ from (Act.heard_iff.2 (by omega)).symm), bel⟩)) | (rw [rounds_succ]; go_wp2; go_ret; (first | exact ⟨ret_bool (show false = _ from (Bool.eq_false_iff.2 (fun h => by have := Act.heard_of h; omega)).symm), bel⟩ | exact ⟨ret_bool (show true = _ from (Act.heard_iff.2 (by omega)).symm), bel⟩)))
end Go.Proofs.Ytjkdmnodamcjnaa
