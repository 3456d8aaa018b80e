
import Derived.Test.YtlhhmkjhhiimlaaRows
import Derived.Test.YtlhhmkjhhiimlaaSayB
import Derived.LoopTactic
import Derived.Deep.QuietTactic
import Derived.BigQuiet
import Derived.RegionTactic
namespace Go.Proofs.Ytlhhmkjhhiimlaa
set_option linter.unusedVariables false
open Go.ChangeShapes Go.WideShapes Go.RowKit

theorem awake8_any (w : World) :
    Calls Try.prog 8 #[] w fun e w' => e = .returned (.bool true) ∧ Below w.heap.size w w' := by
  go_enter Try.func8, Try.ntmps8
  go_wp2_with fail
  refine (sayOf_any _ _ _ _ _ _).mono ?_; rintro e w1 ⟨rfl, hb⟩; have hz := hb.size; try simp only [World.size_alloc, World.heap_drewN, World.size_setCell] at hz
  rw [show Say.kind 3 1 3 0 1 = 2 by decide +kernel, show Say.id_ 3 1 3 0 1 = 1 by decide +kernel, show Say.err 3 1 3 0 1 = 0 by decide +kernel]
  have HB1 := Lib.hid (show Below w.heap.size w w1 from (by with_reducible repeat (first | exact Below.refl _ _ | apply kalloc | apply kept_drewN | (refine kset ?_ (by first | (simp; done) | (simp; omega)) _) | assumption | (refine bthru (by assumption) ?_))))
  clear hb
  go_wp2_with fail
  refine (sayOf_any _ _ _ _ _ _).mono ?_; rintro e w2 ⟨rfl, hb⟩; have hz := hb.size; try simp only [World.size_alloc, World.heap_drewN, World.size_setCell] at hz
  rw [show Say.kind 2 0 0 0 0 = 0 by decide +kernel, show Say.id_ 2 0 0 0 0 = 0 by decide +kernel, show Say.err 2 0 0 0 0 = 1 by decide +kernel]
  have HB2 := Lib.hid (show Below w.heap.size w w2 from by have := HB1.out; exact (by with_reducible repeat (first | exact Below.refl _ _ | apply kalloc | apply kept_drewN | (refine kset ?_ (by first | (simp; done) | (simp; omega)) _) | assumption | (refine bthru (by assumption) ?_))))
  have z_ra : (w1.heap.size) < w2.heap.size := (by omega); have ra : w2.rangeAt (w1.heap.size) 0 [.int .i64 2, .int .i64 1] := (by with_reducible repeat (first | exact range_new_at _ _ _ (by first | omega | (simp; done) | (simp; omega)) | apply range_put | (with_unfolding_all rfl) | (refine range_alloc ?_ (by first | omega | (simp; done) | (simp; omega)) _) | (refine range_drewN ?_ _) | (refine range_far ?_ (by first | omega | (simp; done) | (simp; omega)) _) | assumption | (refine range_below ?_ (by assumption) (by first | omega | (simp; done) | (simp; omega)))))
  have ra_0 := range_cell ra 0 rfl; have ra_1 := range_cell ra 1 rfl
  clear hb
  go_wp2_with fail
  refine (due_any _ _ _ _ _ _).mono ?_; rintro e w3 ⟨rfl, hb⟩; have hz := hb.size; try simp only [World.size_alloc, World.heap_drewN, World.size_setCell] at hz
  rw [show Say.due 3 1 3 0 2 = 2 by decide +kernel]
  have := HB2.out
  go_wp2
  go_ret
  exact ⟨rfl, (by with_reducible repeat (first | exact Below.refl _ _ | apply kalloc | apply kept_drewN | (refine kset ?_ (by first | (simp; done) | (simp; omega)) _) | assumption | (refine bthru (by assumption) ?_)))⟩
set_option maxHeartbeats 1000000 in
theorem sayTells_walk (n : Int) (hn : -9223372036854775808 ≤ n ∧ n ≤ 9223372036854775807) (i : Int) (hi : -9223372036854775808 ≤ i ∧ i ≤ 9223372036854775807) (m : Int) (hm : -9223372036854775808 ≤ m ∧ m ≤ 9223372036854775807) (c : Int) (hc : -9223372036854775808 ≤ c ∧ c ≤ 9223372036854775807) (p : Int) (hp : -9223372036854775808 ≤ p ∧ p ≤ 9223372036854775807) (w : World) :
    Calls Try.prog 3 #[.int .i64 n, .agg #[.int .i64 i, .int .i64 m, .int .i64 c, .int .i64 p]] w fun e w' => e = .returned (.bool true) ∧ Below w.heap.size w w' := by
  have C1 := Lib.hid (fun w => sayOf_any n i m c p w)
  have C2 := Lib.hid (fun w => refSayOf_any n i m c p w)
  have D1 := Lib.hid (fun w => due_any n i m c p w)
  have D2 := Lib.hid (fun w => refDue_any n i m c p w)
  generalize Say.kind n i m c p = xk at *
  generalize Say.id_ n i m c p = xi at *
  generalize Say.err n i m c p = xe at *
  generalize Say.due n i m c p = xd at *
  go_enter Try.func3, Try.ntmps3
  go_wp2_with fail
  refine (C1.out _).mono ?_; rintro e w1 ⟨rfl, hb⟩; have hz := hb.size; try simp only [World.size_alloc, World.heap_drewN, World.size_setCell] at hz
  have HB1 := Lib.hid (show Below w.heap.size w w1 from (by with_reducible repeat (first | exact Below.refl _ _ | apply kalloc | apply kept_drewN | (refine kset ?_ (by first | (simp; done) | (simp; omega)) _) | assumption | (refine bthru (by assumption) ?_))))
  have z_rx : (w.heap.size) < w1.heap.size := (by omega); have rx : w1.rangeAt (w.heap.size) 0 [.int .i64 i, .int .i64 m, .int .i64 c, .int .i64 p] := (by with_reducible repeat (first | exact range_new_at _ _ _ (by first | omega | (simp; done) | (simp; omega)) | apply range_put | (with_unfolding_all rfl) | (refine range_alloc ?_ (by first | omega | (simp; done) | (simp; omega)) _) | (refine range_drewN ?_ _) | (refine range_far ?_ (by first | omega | (simp; done) | (simp; omega)) _) | assumption | (refine range_below ?_ (by assumption) (by first | omega | (simp; done) | (simp; omega)))))
  clear hb
  have rx_0 := range_cell rx 0 rfl; have rx_1 := range_cell rx 1 rfl; have rx_2 := range_cell rx 2 rfl; have rx_3 := range_cell rx 3 rfl
  go_wp2_with fail
  refine (C2.out _).mono ?_; rintro e w2 ⟨rfl, hb⟩; have hz := hb.size; try simp only [World.size_alloc, World.heap_drewN, World.size_setCell] at hz
  have HB2 := Lib.hid (show Below w.heap.size w w2 from by have := HB1.out; exact (by with_reducible repeat (first | exact Below.refl _ _ | apply kalloc | apply kept_drewN | (refine kset ?_ (by first | (simp; done) | (simp; omega)) _) | assumption | (refine bthru (by assumption) ?_))))
  have z_rx : (w.heap.size) < w2.heap.size := (by omega); have rx : w2.rangeAt (w.heap.size) 0 [.int .i64 i, .int .i64 m, .int .i64 c, .int .i64 p] := (by with_reducible repeat (first | exact range_new_at _ _ _ (by first | omega | (simp; done) | (simp; omega)) | apply range_put | (with_unfolding_all rfl) | (refine range_alloc ?_ (by first | omega | (simp; done) | (simp; omega)) _) | (refine range_drewN ?_ _) | (refine range_far ?_ (by first | omega | (simp; done) | (simp; omega)) _) | assumption | (refine range_below ?_ (by assumption) (by first | omega | (simp; done) | (simp; omega)))))
  have z_ra : (w1.heap.size) < w2.heap.size := (by omega); have ra : w2.rangeAt (w1.heap.size) 0 [.int .i64 xk, .int .i64 xi] := (by with_reducible repeat (first | exact range_new_at _ _ _ (by first | omega | (simp; done) | (simp; omega)) | apply range_put | (with_unfolding_all rfl) | (refine range_alloc ?_ (by first | omega | (simp; done) | (simp; omega)) _) | (refine range_drewN ?_ _) | (refine range_far ?_ (by first | omega | (simp; done) | (simp; omega)) _) | assumption | (refine range_below ?_ (by assumption) (by first | omega | (simp; done) | (simp; omega)))))
  clear hb
  go_wp2_with fail
  refine region_below (by kernel_rfl) (by kernel_rfl) ?_; intro wR HW
  have HBR := Lib.hid (show Below w.heap.size w wR from by have := HB2.out; rw [← HW.out]; exact (by with_reducible repeat (first | exact Below.refl _ _ | apply kalloc | apply kept_drewN | (refine kset ?_ (by first | (simp; done) | (simp; omega)) _) | assumption | (refine bthru (by assumption) ?_))))
  have sx : wR.rangeAt w.heap.size 0 [.int .i64 i, .int .i64 m, .int .i64 c, .int .i64 p] := by rw [← HW.out]; exact (by with_reducible repeat (first | exact range_new_at _ _ _ (by first | omega | (simp; done) | (simp; omega)) | apply range_put | (with_unfolding_all rfl) | (refine range_alloc ?_ (by first | omega | (simp; done) | (simp; omega)) _) | (refine range_drewN ?_ _) | (refine range_far ?_ (by first | omega | (simp; done) | (simp; omega)) _) | assumption | (refine range_below ?_ (by assumption) (by first | omega | (simp; done) | (simp; omega)))))
  have sa : wR.rangeAt w1.heap.size 0 [.int .i64 xk, .int .i64 xi] := by rw [← HW.out]; exact (by with_reducible repeat (first | exact range_new_at _ _ _ (by first | omega | (simp; done) | (simp; omega)) | apply range_put | (with_unfolding_all rfl) | (refine range_alloc ?_ (by first | omega | (simp; done) | (simp; omega)) _) | (refine range_drewN ?_ _) | (refine range_far ?_ (by first | omega | (simp; done) | (simp; omega)) _) | assumption | (refine range_below ?_ (by assumption) (by first | omega | (simp; done) | (simp; omega)))))
  have sb : wR.rangeAt w2.heap.size 0 [.int .i64 xk, .int .i64 xi] := by rw [← HW.out]; exact (by with_reducible repeat (first | exact range_new_at _ _ _ (by first | omega | (simp; done) | (simp; omega)) | apply range_put | (with_unfolding_all rfl) | (refine range_alloc ?_ (by first | omega | (simp; done) | (simp; omega)) _) | (refine range_drewN ?_ _) | (refine range_far ?_ (by first | omega | (simp; done) | (simp; omega)) _) | assumption | (refine range_below ?_ (by assumption) (by first | omega | (simp; done) | (simp; omega)))))
  clear rx ra rx_0 rx_1 rx_2 rx_3
  have sx_0 := cell_regrown (range_cell sx 0 rfl); have sx_1 := cell_regrown (range_cell sx 1 rfl); have sx_2 := cell_regrown (range_cell sx 2 rfl); have sx_3 := cell_regrown (range_cell sx 3 rfl)
  have sa_0 := cell_regrown (range_cell sa 0 rfl); have sa_1 := cell_regrown (range_cell sa 1 rfl)
  have sb_0 := cell_regrown (range_cell sb 0 rfl); have sb_1 := cell_regrown (range_cell sb 1 rfl)
  clear sx sa sb
  (repeat (quiet_step (first | with_reducible exact Calls.regrown_of (awake8_any _) | with_reducible exact Calls.regrown_of (D1.out _) | with_reducible exact Calls.regrown_of (D2.out _)))); refine wpQuiet_nil ?_; intro w2 hb2
  go_wp2
  go_ret
  exact ⟨rfl, HBR.out.trans (hb2.mono HBR.out.size)⟩
end Go.Proofs.Ytlhhmkjhhiimlaa
