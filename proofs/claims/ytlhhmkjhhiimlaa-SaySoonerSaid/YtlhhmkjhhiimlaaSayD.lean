
import Derived.Test.YtlhhmkjhhiimlaaRows
import Derived.Test.YtlhhmkjhhiimlaaSayC
import Derived.LoopTactic
import Derived.Deep.QuietTactic
import Derived.BigQuiet
import Derived.RegionTactic
namespace Go.Proofs.Ytlhhmkjhhiimlaa
set_option linter.unusedVariables false
open Go.ChangeShapes Go.WideShapes Go.RowKit

set_option maxHeartbeats 1000000 in
theorem sayOwn_walk (n : Nat) (hn : n < 256) (i : Int) (hi : -9223372036854775808 ≤ i ∧ i ≤ 9223372036854775807) (m : Int) (hm : -9223372036854775808 ≤ m ∧ m ≤ 9223372036854775807) (c : Int) (hc : -9223372036854775808 ≤ c ∧ c ≤ 9223372036854775807) (p : Int) (hp : -9223372036854775808 ≤ p ∧ p ≤ 9223372036854775807) (w : World) :
    Calls Try.prog 4 #[.int .u8 n, .agg #[.int .i64 i, .int .i64 m, .int .i64 c, .int .i64 p]] w fun e w' => e = .returned (.bool true) ∧ Below w.heap.size w w' := by
  have g3 : (3 : Int) ≤ 3 + (n : Int) % 6 := by omega
  have g8 : 3 + (n : Int) % 6 ≤ 8 := by omega
  go_enter Try.func4, Try.ntmps4
  go_wp2_with fail
  generalize 3 + (n : Int) % 6 = M at *
  have C1 := Lib.hid (fun w => sayOf_any M i m c p w)
  have D1 := Lib.hid (fun w => due_any M i m c p w)
  have R1 := Lib.hid (fun w => refNright_any M i m c p w)
  by_cases h : Node.right M i m c p = true
  · have hr := Say.right_of h
    rw [h] at R1
    by_cases hd : Say.due M i m c p = 0
    · obtain ⟨e1, e2, e3⟩ := Say.yes h hd
      rw [e1, e2, e3] at C1
      rw [hd] at D1
      have hm0 : (m != 0) = true := by
        have : m ≠ 0 := by rintro rfl; rw [Say.due_init] at hd; omega
        simp [this]
      clear e1 e2 e3 hd h
      by_cases h3 : m = 3
      · rw [if_pos h3] at C1
        have h3b : (m == 3) = true := by simp [h3]
        clear h3
        go_wp2_with fail
        refine (C1.out _).mono ?_; rintro e w1 ⟨rfl, hb⟩; have hz := hb.size; try simp only [World.size_alloc, World.heap_drewN, World.size_setCell] at hz
        have HB1 := Lib.hid (show Below w.heap.size w w1 from (by with_reducible repeat (first | exact Below.refl _ _ | apply kalloc | apply kept_drewN | (refine kset ?_ (by first | (simp; done) | (simp; omega)) _) | assumption | (refine bthru (by assumption) ?_))))
        have z_rx : (w.heap.size) < w1.heap.size := (by omega); have rx : w1.rangeAt (w.heap.size) 0 [.int .i64 i, .int .i64 m, .int .i64 c, .int .i64 p] := (by with_reducible repeat (first | exact range_new_at _ _ _ (by first | omega | (simp; done) | (simp; omega)) | apply range_put | (with_unfolding_all rfl) | (refine range_alloc ?_ (by first | omega | (simp; done) | (simp; omega)) _) | (refine range_drewN ?_ _) | (refine range_far ?_ (by first | omega | (simp; done) | (simp; omega)) _) | assumption | (refine range_below ?_ (by assumption) (by first | omega | (simp; done) | (simp; omega)))))
        clear hb
        have rx_0 := range_cell rx 0 rfl; have rx_1 := range_cell rx 1 rfl; have rx_2 := range_cell rx 2 rfl; have rx_3 := range_cell rx 3 rfl
        go_wp2_with fail
        refine (D1.out _).mono ?_; rintro e w2 ⟨rfl, hb⟩; have hz := hb.size; try simp only [World.size_alloc, World.heap_drewN, World.size_setCell] at hz
        have HB2 := Lib.hid (show Below w.heap.size w w2 from by have := HB1.out; exact (by with_reducible repeat (first | exact Below.refl _ _ | apply kalloc | apply kept_drewN | (refine kset ?_ (by first | (simp; done) | (simp; omega)) _) | assumption | (refine bthru (by assumption) ?_))))
        have z_rx : (w.heap.size) < w2.heap.size := (by omega); have rx : w2.rangeAt (w.heap.size) 0 [.int .i64 i, .int .i64 m, .int .i64 c, .int .i64 p] := (by with_reducible repeat (first | exact range_new_at _ _ _ (by first | omega | (simp; done) | (simp; omega)) | apply range_put | (with_unfolding_all rfl) | (refine range_alloc ?_ (by first | omega | (simp; done) | (simp; omega)) _) | (refine range_drewN ?_ _) | (refine range_far ?_ (by first | omega | (simp; done) | (simp; omega)) _) | assumption | (refine range_below ?_ (by assumption) (by first | omega | (simp; done) | (simp; omega)))))
        have z_ra : (w1.heap.size) < w2.heap.size := (by omega); have ra : w2.rangeAt (w1.heap.size) 0 [.int .i64 2, .int .i64 i] := (by with_reducible repeat (first | exact range_new_at _ _ _ (by first | omega | (simp; done) | (simp; omega)) | apply range_put | (with_unfolding_all rfl) | (refine range_alloc ?_ (by first | omega | (simp; done) | (simp; omega)) _) | (refine range_drewN ?_ _) | (refine range_far ?_ (by first | omega | (simp; done) | (simp; omega)) _) | assumption | (refine range_below ?_ (by assumption) (by first | omega | (simp; done) | (simp; omega)))))
        clear hb
        have rx_0 := range_cell rx 0 rfl; have rx_1 := range_cell rx 1 rfl; have rx_2 := range_cell rx 2 rfl; have rx_3 := range_cell rx 3 rfl
        have ra_0 := range_cell ra 0 rfl; have ra_1 := range_cell ra 1 rfl
        go_wp2_with fail
        refine (R1.out _).mono ?_; rintro e w3 ⟨rfl, hb⟩; have hz := hb.size; try simp only [World.size_alloc, World.heap_drewN, World.size_setCell] at hz
        have HB3 := Lib.hid (show Below w.heap.size w w3 from by have := HB2.out; exact (by with_reducible repeat (first | exact Below.refl _ _ | apply kalloc | apply kept_drewN | (refine kset ?_ (by first | (simp; done) | (simp; omega)) _) | assumption | (refine bthru (by assumption) ?_))))
        have z_rx : (w.heap.size) < w3.heap.size := (by omega); have rx : w3.rangeAt (w.heap.size) 0 [.int .i64 i, .int .i64 m, .int .i64 c, .int .i64 p] := (by with_reducible repeat (first | exact range_new_at _ _ _ (by first | omega | (simp; done) | (simp; omega)) | apply range_put | (with_unfolding_all rfl) | (refine range_alloc ?_ (by first | omega | (simp; done) | (simp; omega)) _) | (refine range_drewN ?_ _) | (refine range_far ?_ (by first | omega | (simp; done) | (simp; omega)) _) | assumption | (refine range_below ?_ (by assumption) (by first | omega | (simp; done) | (simp; omega)))))
        have z_ra : (w1.heap.size) < w3.heap.size := (by omega); have ra : w3.rangeAt (w1.heap.size) 0 [.int .i64 2, .int .i64 i] := (by with_reducible repeat (first | exact range_new_at _ _ _ (by first | omega | (simp; done) | (simp; omega)) | apply range_put | (with_unfolding_all rfl) | (refine range_alloc ?_ (by first | omega | (simp; done) | (simp; omega)) _) | (refine range_drewN ?_ _) | (refine range_far ?_ (by first | omega | (simp; done) | (simp; omega)) _) | assumption | (refine range_below ?_ (by assumption) (by first | omega | (simp; done) | (simp; omega)))))
        clear hb
        have rx_0 := range_cell rx 0 rfl; have rx_1 := range_cell rx 1 rfl; have rx_2 := range_cell rx 2 rfl; have rx_3 := range_cell rx 3 rfl
        have ra_0 := range_cell ra 0 rfl; have ra_1 := range_cell ra 1 rfl
        go_wp2_with fail
        refine (awake8_any _).mono ?_; rintro e w4 ⟨rfl, hb⟩; have hz := hb.size; try simp only [World.size_alloc, World.heap_drewN, World.size_setCell] at hz
        have HB4 := Lib.hid (show Below w.heap.size w w4 from by have := HB3.out; exact (by with_reducible repeat (first | exact Below.refl _ _ | apply kalloc | apply kept_drewN | (refine kset ?_ (by first | (simp; done) | (simp; omega)) _) | assumption | (refine bthru (by assumption) ?_))))
        have z_rx : (w.heap.size) < w4.heap.size := (by omega); have rx : w4.rangeAt (w.heap.size) 0 [.int .i64 i, .int .i64 m, .int .i64 c, .int .i64 p] := (by with_reducible repeat (first | exact range_new_at _ _ _ (by first | omega | (simp; done) | (simp; omega)) | apply range_put | (with_unfolding_all rfl) | (refine range_alloc ?_ (by first | omega | (simp; done) | (simp; omega)) _) | (refine range_drewN ?_ _) | (refine range_far ?_ (by first | omega | (simp; done) | (simp; omega)) _) | assumption | (refine range_below ?_ (by assumption) (by first | omega | (simp; done) | (simp; omega)))))
        have z_ra : (w1.heap.size) < w4.heap.size := (by omega); have ra : w4.rangeAt (w1.heap.size) 0 [.int .i64 2, .int .i64 i] := (by with_reducible repeat (first | exact range_new_at _ _ _ (by first | omega | (simp; done) | (simp; omega)) | apply range_put | (with_unfolding_all rfl) | (refine range_alloc ?_ (by first | omega | (simp; done) | (simp; omega)) _) | (refine range_drewN ?_ _) | (refine range_far ?_ (by first | omega | (simp; done) | (simp; omega)) _) | assumption | (refine range_below ?_ (by assumption) (by first | omega | (simp; done) | (simp; omega)))))
        clear hb
        have rx_0 := range_cell rx 0 rfl; have rx_1 := range_cell rx 1 rfl; have rx_2 := range_cell rx 2 rfl; have rx_3 := range_cell rx 3 rfl
        have ra_0 := range_cell ra 0 rfl; have ra_1 := range_cell ra 1 rfl
        have := HB4.out
        go_wp2
        go_ret
        exact ⟨rfl, (by with_reducible repeat (first | exact Below.refl _ _ | apply kalloc | apply kept_drewN | (refine kset ?_ (by first | (simp; done) | (simp; omega)) _) | assumption | (refine bthru (by assumption) ?_)))⟩
      · rw [if_neg h3] at C1
        have h3b : (m == 3) = false := by simp [h3]
        clear h3
        go_wp2_with fail
        refine (C1.out _).mono ?_; rintro e w1 ⟨rfl, hb⟩; have hz := hb.size; try simp only [World.size_alloc, World.heap_drewN, World.size_setCell] at hz
        have HB1 := Lib.hid (show Below w.heap.size w w1 from (by with_reducible repeat (first | exact Below.refl _ _ | apply kalloc | apply kept_drewN | (refine kset ?_ (by first | (simp; done) | (simp; omega)) _) | assumption | (refine bthru (by assumption) ?_))))
        have z_rx : (w.heap.size) < w1.heap.size := (by omega); have rx : w1.rangeAt (w.heap.size) 0 [.int .i64 i, .int .i64 m, .int .i64 c, .int .i64 p] := (by with_reducible repeat (first | exact range_new_at _ _ _ (by first | omega | (simp; done) | (simp; omega)) | apply range_put | (with_unfolding_all rfl) | (refine range_alloc ?_ (by first | omega | (simp; done) | (simp; omega)) _) | (refine range_drewN ?_ _) | (refine range_far ?_ (by first | omega | (simp; done) | (simp; omega)) _) | assumption | (refine range_below ?_ (by assumption) (by first | omega | (simp; done) | (simp; omega)))))
        clear hb
        have rx_0 := range_cell rx 0 rfl; have rx_1 := range_cell rx 1 rfl; have rx_2 := range_cell rx 2 rfl; have rx_3 := range_cell rx 3 rfl
        go_wp2_with fail
        refine (D1.out _).mono ?_; rintro e w2 ⟨rfl, hb⟩; have hz := hb.size; try simp only [World.size_alloc, World.heap_drewN, World.size_setCell] at hz
        have HB2 := Lib.hid (show Below w.heap.size w w2 from by have := HB1.out; exact (by with_reducible repeat (first | exact Below.refl _ _ | apply kalloc | apply kept_drewN | (refine kset ?_ (by first | (simp; done) | (simp; omega)) _) | assumption | (refine bthru (by assumption) ?_))))
        have z_rx : (w.heap.size) < w2.heap.size := (by omega); have rx : w2.rangeAt (w.heap.size) 0 [.int .i64 i, .int .i64 m, .int .i64 c, .int .i64 p] := (by with_reducible repeat (first | exact range_new_at _ _ _ (by first | omega | (simp; done) | (simp; omega)) | apply range_put | (with_unfolding_all rfl) | (refine range_alloc ?_ (by first | omega | (simp; done) | (simp; omega)) _) | (refine range_drewN ?_ _) | (refine range_far ?_ (by first | omega | (simp; done) | (simp; omega)) _) | assumption | (refine range_below ?_ (by assumption) (by first | omega | (simp; done) | (simp; omega)))))
        have z_ra : (w1.heap.size) < w2.heap.size := (by omega); have ra : w2.rangeAt (w1.heap.size) 0 [.int .i64 1, .int .i64 i] := (by with_reducible repeat (first | exact range_new_at _ _ _ (by first | omega | (simp; done) | (simp; omega)) | apply range_put | (with_unfolding_all rfl) | (refine range_alloc ?_ (by first | omega | (simp; done) | (simp; omega)) _) | (refine range_drewN ?_ _) | (refine range_far ?_ (by first | omega | (simp; done) | (simp; omega)) _) | assumption | (refine range_below ?_ (by assumption) (by first | omega | (simp; done) | (simp; omega)))))
        clear hb
        have rx_0 := range_cell rx 0 rfl; have rx_1 := range_cell rx 1 rfl; have rx_2 := range_cell rx 2 rfl; have rx_3 := range_cell rx 3 rfl
        have ra_0 := range_cell ra 0 rfl; have ra_1 := range_cell ra 1 rfl
        go_wp2_with fail
        refine (R1.out _).mono ?_; rintro e w3 ⟨rfl, hb⟩; have hz := hb.size; try simp only [World.size_alloc, World.heap_drewN, World.size_setCell] at hz
        have HB3 := Lib.hid (show Below w.heap.size w w3 from by have := HB2.out; exact (by with_reducible repeat (first | exact Below.refl _ _ | apply kalloc | apply kept_drewN | (refine kset ?_ (by first | (simp; done) | (simp; omega)) _) | assumption | (refine bthru (by assumption) ?_))))
        have z_rx : (w.heap.size) < w3.heap.size := (by omega); have rx : w3.rangeAt (w.heap.size) 0 [.int .i64 i, .int .i64 m, .int .i64 c, .int .i64 p] := (by with_reducible repeat (first | exact range_new_at _ _ _ (by first | omega | (simp; done) | (simp; omega)) | apply range_put | (with_unfolding_all rfl) | (refine range_alloc ?_ (by first | omega | (simp; done) | (simp; omega)) _) | (refine range_drewN ?_ _) | (refine range_far ?_ (by first | omega | (simp; done) | (simp; omega)) _) | assumption | (refine range_below ?_ (by assumption) (by first | omega | (simp; done) | (simp; omega)))))
        have z_ra : (w1.heap.size) < w3.heap.size := (by omega); have ra : w3.rangeAt (w1.heap.size) 0 [.int .i64 1, .int .i64 i] := (by with_reducible repeat (first | exact range_new_at _ _ _ (by first | omega | (simp; done) | (simp; omega)) | apply range_put | (with_unfolding_all rfl) | (refine range_alloc ?_ (by first | omega | (simp; done) | (simp; omega)) _) | (refine range_drewN ?_ _) | (refine range_far ?_ (by first | omega | (simp; done) | (simp; omega)) _) | assumption | (refine range_below ?_ (by assumption) (by first | omega | (simp; done) | (simp; omega)))))
        clear hb
        have rx_0 := range_cell rx 0 rfl; have rx_1 := range_cell rx 1 rfl; have rx_2 := range_cell rx 2 rfl; have rx_3 := range_cell rx 3 rfl
        have ra_0 := range_cell ra 0 rfl; have ra_1 := range_cell ra 1 rfl
        go_wp2_with fail
        refine (awake8_any _).mono ?_; rintro e w4 ⟨rfl, hb⟩; have hz := hb.size; try simp only [World.size_alloc, World.heap_drewN, World.size_setCell] at hz
        have HB4 := Lib.hid (show Below w.heap.size w w4 from by have := HB3.out; exact (by with_reducible repeat (first | exact Below.refl _ _ | apply kalloc | apply kept_drewN | (refine kset ?_ (by first | (simp; done) | (simp; omega)) _) | assumption | (refine bthru (by assumption) ?_))))
        have z_rx : (w.heap.size) < w4.heap.size := (by omega); have rx : w4.rangeAt (w.heap.size) 0 [.int .i64 i, .int .i64 m, .int .i64 c, .int .i64 p] := (by with_reducible repeat (first | exact range_new_at _ _ _ (by first | omega | (simp; done) | (simp; omega)) | apply range_put | (with_unfolding_all rfl) | (refine range_alloc ?_ (by first | omega | (simp; done) | (simp; omega)) _) | (refine range_drewN ?_ _) | (refine range_far ?_ (by first | omega | (simp; done) | (simp; omega)) _) | assumption | (refine range_below ?_ (by assumption) (by first | omega | (simp; done) | (simp; omega)))))
        have z_ra : (w1.heap.size) < w4.heap.size := (by omega); have ra : w4.rangeAt (w1.heap.size) 0 [.int .i64 1, .int .i64 i] := (by with_reducible repeat (first | exact range_new_at _ _ _ (by first | omega | (simp; done) | (simp; omega)) | apply range_put | (with_unfolding_all rfl) | (refine range_alloc ?_ (by first | omega | (simp; done) | (simp; omega)) _) | (refine range_drewN ?_ _) | (refine range_far ?_ (by first | omega | (simp; done) | (simp; omega)) _) | assumption | (refine range_below ?_ (by assumption) (by first | omega | (simp; done) | (simp; omega)))))
        clear hb
        have rx_0 := range_cell rx 0 rfl; have rx_1 := range_cell rx 1 rfl; have rx_2 := range_cell rx 2 rfl; have rx_3 := range_cell rx 3 rfl
        have ra_0 := range_cell ra 0 rfl; have ra_1 := range_cell ra 1 rfl
        have := HB4.out
        go_wp2
        go_ret
        exact ⟨rfl, (by with_reducible repeat (first | exact Below.refl _ _ | apply kalloc | apply kept_drewN | (refine kset ?_ (by first | (simp; done) | (simp; omega)) _) | assumption | (refine bthru (by assumption) ?_)))⟩
    · obtain ⟨e1, e2, e3⟩ := Say.later h hd
      rw [e1, e2, e3] at C1
      have hd0 : (Say.due M i m c p != 0) = true := by simp [hd]
      generalize Say.due M i m c p = d at *
      clear e1 e2 e3 hd h
      go_wp2_with fail
      refine (C1.out _).mono ?_; rintro e w1 ⟨rfl, hb⟩; have hz := hb.size; try simp only [World.size_alloc, World.heap_drewN, World.size_setCell] at hz
      have HB1 := Lib.hid (show Below w.heap.size w w1 from (by with_reducible repeat (first | exact Below.refl _ _ | apply kalloc | apply kept_drewN | (refine kset ?_ (by first | (simp; done) | (simp; omega)) _) | assumption | (refine bthru (by assumption) ?_))))
      have z_rx : (w.heap.size) < w1.heap.size := (by omega); have rx : w1.rangeAt (w.heap.size) 0 [.int .i64 i, .int .i64 m, .int .i64 c, .int .i64 p] := (by with_reducible repeat (first | exact range_new_at _ _ _ (by first | omega | (simp; done) | (simp; omega)) | apply range_put | (with_unfolding_all rfl) | (refine range_alloc ?_ (by first | omega | (simp; done) | (simp; omega)) _) | (refine range_drewN ?_ _) | (refine range_far ?_ (by first | omega | (simp; done) | (simp; omega)) _) | assumption | (refine range_below ?_ (by assumption) (by first | omega | (simp; done) | (simp; omega)))))
      clear hb
      have rx_0 := range_cell rx 0 rfl; have rx_1 := range_cell rx 1 rfl; have rx_2 := range_cell rx 2 rfl; have rx_3 := range_cell rx 3 rfl
      go_wp2_with fail
      refine (D1.out _).mono ?_; rintro e w2 ⟨rfl, hb⟩; have hz := hb.size; try simp only [World.size_alloc, World.heap_drewN, World.size_setCell] at hz
      have HB2 := Lib.hid (show Below w.heap.size w w2 from by have := HB1.out; exact (by with_reducible repeat (first | exact Below.refl _ _ | apply kalloc | apply kept_drewN | (refine kset ?_ (by first | (simp; done) | (simp; omega)) _) | assumption | (refine bthru (by assumption) ?_))))
      have z_rx : (w.heap.size) < w2.heap.size := (by omega); have rx : w2.rangeAt (w.heap.size) 0 [.int .i64 i, .int .i64 m, .int .i64 c, .int .i64 p] := (by with_reducible repeat (first | exact range_new_at _ _ _ (by first | omega | (simp; done) | (simp; omega)) | apply range_put | (with_unfolding_all rfl) | (refine range_alloc ?_ (by first | omega | (simp; done) | (simp; omega)) _) | (refine range_drewN ?_ _) | (refine range_far ?_ (by first | omega | (simp; done) | (simp; omega)) _) | assumption | (refine range_below ?_ (by assumption) (by first | omega | (simp; done) | (simp; omega)))))
      have z_ra : (w1.heap.size) < w2.heap.size := (by omega); have ra : w2.rangeAt (w1.heap.size) 0 [.int .i64 0, .int .i64 0] := (by with_reducible repeat (first | exact range_new_at _ _ _ (by first | omega | (simp; done) | (simp; omega)) | apply range_put | (with_unfolding_all rfl) | (refine range_alloc ?_ (by first | omega | (simp; done) | (simp; omega)) _) | (refine range_drewN ?_ _) | (refine range_far ?_ (by first | omega | (simp; done) | (simp; omega)) _) | assumption | (refine range_below ?_ (by assumption) (by first | omega | (simp; done) | (simp; omega)))))
      clear hb
      have rx_0 := range_cell rx 0 rfl; have rx_1 := range_cell rx 1 rfl; have rx_2 := range_cell rx 2 rfl; have rx_3 := range_cell rx 3 rfl
      have ra_0 := range_cell ra 0 rfl; have ra_1 := range_cell ra 1 rfl
      go_wp2_with fail
      refine (R1.out _).mono ?_; rintro e w3 ⟨rfl, hb⟩; have hz := hb.size; try simp only [World.size_alloc, World.heap_drewN, World.size_setCell] at hz
      have HB3 := Lib.hid (show Below w.heap.size w w3 from by have := HB2.out; exact (by with_reducible repeat (first | exact Below.refl _ _ | apply kalloc | apply kept_drewN | (refine kset ?_ (by first | (simp; done) | (simp; omega)) _) | assumption | (refine bthru (by assumption) ?_))))
      have z_rx : (w.heap.size) < w3.heap.size := (by omega); have rx : w3.rangeAt (w.heap.size) 0 [.int .i64 i, .int .i64 m, .int .i64 c, .int .i64 p] := (by with_reducible repeat (first | exact range_new_at _ _ _ (by first | omega | (simp; done) | (simp; omega)) | apply range_put | (with_unfolding_all rfl) | (refine range_alloc ?_ (by first | omega | (simp; done) | (simp; omega)) _) | (refine range_drewN ?_ _) | (refine range_far ?_ (by first | omega | (simp; done) | (simp; omega)) _) | assumption | (refine range_below ?_ (by assumption) (by first | omega | (simp; done) | (simp; omega)))))
      have z_ra : (w1.heap.size) < w3.heap.size := (by omega); have ra : w3.rangeAt (w1.heap.size) 0 [.int .i64 0, .int .i64 0] := (by with_reducible repeat (first | exact range_new_at _ _ _ (by first | omega | (simp; done) | (simp; omega)) | apply range_put | (with_unfolding_all rfl) | (refine range_alloc ?_ (by first | omega | (simp; done) | (simp; omega)) _) | (refine range_drewN ?_ _) | (refine range_far ?_ (by first | omega | (simp; done) | (simp; omega)) _) | assumption | (refine range_below ?_ (by assumption) (by first | omega | (simp; done) | (simp; omega)))))
      clear hb
      have rx_0 := range_cell rx 0 rfl; have rx_1 := range_cell rx 1 rfl; have rx_2 := range_cell rx 2 rfl; have rx_3 := range_cell rx 3 rfl
      have ra_0 := range_cell ra 0 rfl; have ra_1 := range_cell ra 1 rfl
      go_wp2_with fail
      refine (awake8_any _).mono ?_; rintro e w4 ⟨rfl, hb⟩; have hz := hb.size; try simp only [World.size_alloc, World.heap_drewN, World.size_setCell] at hz
      have HB4 := Lib.hid (show Below w.heap.size w w4 from by have := HB3.out; exact (by with_reducible repeat (first | exact Below.refl _ _ | apply kalloc | apply kept_drewN | (refine kset ?_ (by first | (simp; done) | (simp; omega)) _) | assumption | (refine bthru (by assumption) ?_))))
      have z_rx : (w.heap.size) < w4.heap.size := (by omega); have rx : w4.rangeAt (w.heap.size) 0 [.int .i64 i, .int .i64 m, .int .i64 c, .int .i64 p] := (by with_reducible repeat (first | exact range_new_at _ _ _ (by first | omega | (simp; done) | (simp; omega)) | apply range_put | (with_unfolding_all rfl) | (refine range_alloc ?_ (by first | omega | (simp; done) | (simp; omega)) _) | (refine range_drewN ?_ _) | (refine range_far ?_ (by first | omega | (simp; done) | (simp; omega)) _) | assumption | (refine range_below ?_ (by assumption) (by first | omega | (simp; done) | (simp; omega)))))
      have z_ra : (w1.heap.size) < w4.heap.size := (by omega); have ra : w4.rangeAt (w1.heap.size) 0 [.int .i64 0, .int .i64 0] := (by with_reducible repeat (first | exact range_new_at _ _ _ (by first | omega | (simp; done) | (simp; omega)) | apply range_put | (with_unfolding_all rfl) | (refine range_alloc ?_ (by first | omega | (simp; done) | (simp; omega)) _) | (refine range_drewN ?_ _) | (refine range_far ?_ (by first | omega | (simp; done) | (simp; omega)) _) | assumption | (refine range_below ?_ (by assumption) (by first | omega | (simp; done) | (simp; omega)))))
      clear hb
      have rx_0 := range_cell rx 0 rfl; have rx_1 := range_cell rx 1 rfl; have rx_2 := range_cell rx 2 rfl; have rx_3 := range_cell rx 3 rfl
      have ra_0 := range_cell ra 0 rfl; have ra_1 := range_cell ra 1 rfl
      have := HB4.out
      go_wp2
      go_ret
      exact ⟨rfl, (by with_reducible repeat (first | exact Below.refl _ _ | apply kalloc | apply kept_drewN | (refine kset ?_ (by first | (simp; done) | (simp; omega)) _) | assumption | (refine bthru (by assumption) ?_)))⟩
  · have h := Bool.eq_false_iff.2 h
    rw [h] at R1
    obtain ⟨e1, e2, e3⟩ := Say.no h
    rw [e1, e2, e3] at C1
    rw [Say.due_no h] at D1
    clear e1 e2 e3 h
    go_wp2_with fail
    refine (C1.out _).mono ?_; rintro e w1 ⟨rfl, hb⟩; have hz := hb.size; try simp only [World.size_alloc, World.heap_drewN, World.size_setCell] at hz
    have HB1 := Lib.hid (show Below w.heap.size w w1 from (by with_reducible repeat (first | exact Below.refl _ _ | apply kalloc | apply kept_drewN | (refine kset ?_ (by first | (simp; done) | (simp; omega)) _) | assumption | (refine bthru (by assumption) ?_))))
    have z_rx : (w.heap.size) < w1.heap.size := (by omega); have rx : w1.rangeAt (w.heap.size) 0 [.int .i64 i, .int .i64 m, .int .i64 c, .int .i64 p] := (by with_reducible repeat (first | exact range_new_at _ _ _ (by first | omega | (simp; done) | (simp; omega)) | apply range_put | (with_unfolding_all rfl) | (refine range_alloc ?_ (by first | omega | (simp; done) | (simp; omega)) _) | (refine range_drewN ?_ _) | (refine range_far ?_ (by first | omega | (simp; done) | (simp; omega)) _) | assumption | (refine range_below ?_ (by assumption) (by first | omega | (simp; done) | (simp; omega)))))
    clear hb
    have rx_0 := range_cell rx 0 rfl; have rx_1 := range_cell rx 1 rfl; have rx_2 := range_cell rx 2 rfl; have rx_3 := range_cell rx 3 rfl
    go_wp2_with fail
    refine (D1.out _).mono ?_; rintro e w2 ⟨rfl, hb⟩; have hz := hb.size; try simp only [World.size_alloc, World.heap_drewN, World.size_setCell] at hz
    have HB2 := Lib.hid (show Below w.heap.size w w2 from by have := HB1.out; exact (by with_reducible repeat (first | exact Below.refl _ _ | apply kalloc | apply kept_drewN | (refine kset ?_ (by first | (simp; done) | (simp; omega)) _) | assumption | (refine bthru (by assumption) ?_))))
    have z_rx : (w.heap.size) < w2.heap.size := (by omega); have rx : w2.rangeAt (w.heap.size) 0 [.int .i64 i, .int .i64 m, .int .i64 c, .int .i64 p] := (by with_reducible repeat (first | exact range_new_at _ _ _ (by first | omega | (simp; done) | (simp; omega)) | apply range_put | (with_unfolding_all rfl) | (refine range_alloc ?_ (by first | omega | (simp; done) | (simp; omega)) _) | (refine range_drewN ?_ _) | (refine range_far ?_ (by first | omega | (simp; done) | (simp; omega)) _) | assumption | (refine range_below ?_ (by assumption) (by first | omega | (simp; done) | (simp; omega)))))
    have z_ra : (w1.heap.size) < w2.heap.size := (by omega); have ra : w2.rangeAt (w1.heap.size) 0 [.int .i64 0, .int .i64 0] := (by with_reducible repeat (first | exact range_new_at _ _ _ (by first | omega | (simp; done) | (simp; omega)) | apply range_put | (with_unfolding_all rfl) | (refine range_alloc ?_ (by first | omega | (simp; done) | (simp; omega)) _) | (refine range_drewN ?_ _) | (refine range_far ?_ (by first | omega | (simp; done) | (simp; omega)) _) | assumption | (refine range_below ?_ (by assumption) (by first | omega | (simp; done) | (simp; omega)))))
    clear hb
    have rx_0 := range_cell rx 0 rfl; have rx_1 := range_cell rx 1 rfl; have rx_2 := range_cell rx 2 rfl; have rx_3 := range_cell rx 3 rfl
    have ra_0 := range_cell ra 0 rfl; have ra_1 := range_cell ra 1 rfl
    go_wp2_with fail
    refine (R1.out _).mono ?_; rintro e w3 ⟨rfl, hb⟩; have hz := hb.size; try simp only [World.size_alloc, World.heap_drewN, World.size_setCell] at hz
    have HB3 := Lib.hid (show Below w.heap.size w w3 from by have := HB2.out; exact (by with_reducible repeat (first | exact Below.refl _ _ | apply kalloc | apply kept_drewN | (refine kset ?_ (by first | (simp; done) | (simp; omega)) _) | assumption | (refine bthru (by assumption) ?_))))
    have z_rx : (w.heap.size) < w3.heap.size := (by omega); have rx : w3.rangeAt (w.heap.size) 0 [.int .i64 i, .int .i64 m, .int .i64 c, .int .i64 p] := (by with_reducible repeat (first | exact range_new_at _ _ _ (by first | omega | (simp; done) | (simp; omega)) | apply range_put | (with_unfolding_all rfl) | (refine range_alloc ?_ (by first | omega | (simp; done) | (simp; omega)) _) | (refine range_drewN ?_ _) | (refine range_far ?_ (by first | omega | (simp; done) | (simp; omega)) _) | assumption | (refine range_below ?_ (by assumption) (by first | omega | (simp; done) | (simp; omega)))))
    have z_ra : (w1.heap.size) < w3.heap.size := (by omega); have ra : w3.rangeAt (w1.heap.size) 0 [.int .i64 0, .int .i64 0] := (by with_reducible repeat (first | exact range_new_at _ _ _ (by first | omega | (simp; done) | (simp; omega)) | apply range_put | (with_unfolding_all rfl) | (refine range_alloc ?_ (by first | omega | (simp; done) | (simp; omega)) _) | (refine range_drewN ?_ _) | (refine range_far ?_ (by first | omega | (simp; done) | (simp; omega)) _) | assumption | (refine range_below ?_ (by assumption) (by first | omega | (simp; done) | (simp; omega)))))
    clear hb
    have rx_0 := range_cell rx 0 rfl; have rx_1 := range_cell rx 1 rfl; have rx_2 := range_cell rx 2 rfl; have rx_3 := range_cell rx 3 rfl
    have ra_0 := range_cell ra 0 rfl; have ra_1 := range_cell ra 1 rfl
    go_wp2_with fail
    refine (awake8_any _).mono ?_; rintro e w4 ⟨rfl, hb⟩; have hz := hb.size; try simp only [World.size_alloc, World.heap_drewN, World.size_setCell] at hz
    have HB4 := Lib.hid (show Below w.heap.size w w4 from by have := HB3.out; exact (by with_reducible repeat (first | exact Below.refl _ _ | apply kalloc | apply kept_drewN | (refine kset ?_ (by first | (simp; done) | (simp; omega)) _) | assumption | (refine bthru (by assumption) ?_))))
    have z_rx : (w.heap.size) < w4.heap.size := (by omega); have rx : w4.rangeAt (w.heap.size) 0 [.int .i64 i, .int .i64 m, .int .i64 c, .int .i64 p] := (by with_reducible repeat (first | exact range_new_at _ _ _ (by first | omega | (simp; done) | (simp; omega)) | apply range_put | (with_unfolding_all rfl) | (refine range_alloc ?_ (by first | omega | (simp; done) | (simp; omega)) _) | (refine range_drewN ?_ _) | (refine range_far ?_ (by first | omega | (simp; done) | (simp; omega)) _) | assumption | (refine range_below ?_ (by assumption) (by first | omega | (simp; done) | (simp; omega)))))
    have z_ra : (w1.heap.size) < w4.heap.size := (by omega); have ra : w4.rangeAt (w1.heap.size) 0 [.int .i64 0, .int .i64 0] := (by with_reducible repeat (first | exact range_new_at _ _ _ (by first | omega | (simp; done) | (simp; omega)) | apply range_put | (with_unfolding_all rfl) | (refine range_alloc ?_ (by first | omega | (simp; done) | (simp; omega)) _) | (refine range_drewN ?_ _) | (refine range_far ?_ (by first | omega | (simp; done) | (simp; omega)) _) | assumption | (refine range_below ?_ (by assumption) (by first | omega | (simp; done) | (simp; omega)))))
    clear hb
    have rx_0 := range_cell rx 0 rfl; have rx_1 := range_cell rx 1 rfl; have rx_2 := range_cell rx 2 rfl; have rx_3 := range_cell rx 3 rfl
    have ra_0 := range_cell ra 0 rfl; have ra_1 := range_cell ra 1 rfl
    have := HB4.out
    go_wp2
    go_ret
    exact ⟨rfl, (by with_reducible repeat (first | exact Below.refl _ _ | apply kalloc | apply kept_drewN | (refine kset ?_ (by first | (simp; done) | (simp; omega)) _) | assumption | (refine bthru (by assumption) ?_)))⟩
set_option maxHeartbeats 1000000 in
theorem saySooner_walk (n : Nat) (hn : n < 256) (i : Int) (hi : -9223372036854775808 ≤ i ∧ i ≤ 9223372036854775807) (m : Int) (hm : -9223372036854775808 ≤ m ∧ m ≤ 9223372036854775807) (c : Int) (hc : -9223372036854775808 ≤ c ∧ c ≤ 9223372036854775807) (p : Int) (hp : -9223372036854775808 ≤ p ∧ p ≤ 9223372036854775807) (w : World) :
    Calls Try.prog 5 #[.int .u8 n, .agg #[.int .i64 i, .int .i64 m, .int .i64 c, .int .i64 p]] w fun e w' => e = .returned (.bool true) ∧ Below w.heap.size w w' := by
  have g3 : (3 : Int) ≤ 3 + (n : Int) % 6 := by omega
  have g8 : 3 + (n : Int) % 6 ≤ 8 := by omega
  go_enter Try.func5, Try.ntmps5
  go_wp2_with fail
  generalize 3 + (n : Int) % 6 = M at *
  have D1 := Lib.hid (fun w => due_any M i m c p w)
  have R1 := Lib.hid (fun w => refNright_any M i m c p w)
  have SN3 := Lib.hid (fun h : m = 3 => @Say.sooner_3 M i c p)
  have SN := Lib.hid (@Say.sooner_12 M i m c p)
  have RO := Lib.hid (@Say.right_of M i m c p)
  have D3a := Lib.hid (fun w => due_any M i m c ((p + 1) % M) w)
  have D3b := Lib.hid (fun w => due_any M i m (c + 1) p w)
  by_cases hd : Say.due M i m c p < 1
  · have hd2 : decide (Say.due M i m c p < 1) = true := by simp [hd]
    generalize Say.due M i m c p = d at *
    clear hd
    go_wp2_with fail
    refine (D1.out _).mono ?_; rintro e w1 ⟨rfl, hb⟩; have hz := hb.size; try simp only [World.size_alloc, World.heap_drewN, World.size_setCell] at hz
    have HB1 := Lib.hid (show Below w.heap.size w w1 from (by with_reducible repeat (first | exact Below.refl _ _ | apply kalloc | apply kept_drewN | (refine kset ?_ (by first | (simp; done) | (simp; omega)) _) | assumption | (refine bthru (by assumption) ?_))))
    have z_rx : (w.heap.size) < w1.heap.size := (by omega); have rx : w1.rangeAt (w.heap.size) 0 [.int .i64 i, .int .i64 m, .int .i64 c, .int .i64 p] := (by with_reducible repeat (first | exact range_new_at _ _ _ (by first | omega | (simp; done) | (simp; omega)) | apply range_put | (with_unfolding_all rfl) | (refine range_alloc ?_ (by first | omega | (simp; done) | (simp; omega)) _) | (refine range_drewN ?_ _) | (refine range_far ?_ (by first | omega | (simp; done) | (simp; omega)) _) | assumption | (refine range_below ?_ (by assumption) (by first | omega | (simp; done) | (simp; omega))))); have f_rx : Free w1 (w.heap.size) := (by with_reducible repeat (first | exact free_new_at _ _ _ (by first | omega | (simp; done) | (simp; omega)) | (refine free_set ?_ _ _) | (refine free_alloc ?_ (by first | omega | (simp; done) | (simp; omega)) _) | (refine free_drewN ?_ _) | assumption | (refine free_below ?_ (by assumption) (by first | omega | (simp; done) | (simp; omega)))))
    clear hb
    have rx_0 := range_cell rx 0 rfl; have rx_1 := range_cell rx 1 rfl; have rx_2 := range_cell rx 2 rfl; have rx_3 := range_cell rx 3 rfl
    have rx_f0 := f_rx 0; have rx_f1 := f_rx 1; have rx_f2 := f_rx 2; have rx_f3 := f_rx 3
    go_wp2_with fail
    refine (awake8_any _).mono ?_; rintro e w3 ⟨rfl, hb⟩; have hz := hb.size; try simp only [World.size_alloc, World.heap_drewN, World.size_setCell] at hz
    have := HB1.out
    go_wp2
    go_ret
    exact ⟨rfl, (by with_reducible repeat (first | exact Below.refl _ _ | apply kalloc | apply kept_drewN | (refine kset ?_ (by first | (simp; done) | (simp; omega)) _) | assumption | (refine bthru (by assumption) ?_)))⟩
  · have hd2 : decide (Say.due M i m c p < 1) = false := by simp; omega
    by_cases hr : Node.right M i m c p = true
    · rw [hr] at R1
      have hr2 := RO.out hr
      by_cases hc1 : 1000 < c
      · generalize Say.due M i m c p = d at *
        clear hd hr
        go_wp2_with fail
        refine (D1.out _).mono ?_; rintro e w1 ⟨rfl, hb⟩; have hz := hb.size; try simp only [World.size_alloc, World.heap_drewN, World.size_setCell] at hz
        have HB1 := Lib.hid (show Below w.heap.size w w1 from (by with_reducible repeat (first | exact Below.refl _ _ | apply kalloc | apply kept_drewN | (refine kset ?_ (by first | (simp; done) | (simp; omega)) _) | assumption | (refine bthru (by assumption) ?_))))
        have z_rx : (w.heap.size) < w1.heap.size := (by omega); have rx : w1.rangeAt (w.heap.size) 0 [.int .i64 i, .int .i64 m, .int .i64 c, .int .i64 p] := (by with_reducible repeat (first | exact range_new_at _ _ _ (by first | omega | (simp; done) | (simp; omega)) | apply range_put | (with_unfolding_all rfl) | (refine range_alloc ?_ (by first | omega | (simp; done) | (simp; omega)) _) | (refine range_drewN ?_ _) | (refine range_far ?_ (by first | omega | (simp; done) | (simp; omega)) _) | assumption | (refine range_below ?_ (by assumption) (by first | omega | (simp; done) | (simp; omega))))); have f_rx : Free w1 (w.heap.size) := (by with_reducible repeat (first | exact free_new_at _ _ _ (by first | omega | (simp; done) | (simp; omega)) | (refine free_set ?_ _ _) | (refine free_alloc ?_ (by first | omega | (simp; done) | (simp; omega)) _) | (refine free_drewN ?_ _) | assumption | (refine free_below ?_ (by assumption) (by first | omega | (simp; done) | (simp; omega)))))
        clear hb
        have rx_0 := range_cell rx 0 rfl; have rx_1 := range_cell rx 1 rfl; have rx_2 := range_cell rx 2 rfl; have rx_3 := range_cell rx 3 rfl
        have rx_f0 := f_rx 0; have rx_f1 := f_rx 1; have rx_f2 := f_rx 2; have rx_f3 := f_rx 3
        go_wp2_with fail
        refine (R1.out _).mono ?_; rintro e w2 ⟨rfl, hb⟩; have hz := hb.size; try simp only [World.size_alloc, World.heap_drewN, World.size_setCell] at hz
        have HB2 := Lib.hid (show Below w.heap.size w w2 from by have := HB1.out; exact (by with_reducible repeat (first | exact Below.refl _ _ | apply kalloc | apply kept_drewN | (refine kset ?_ (by first | (simp; done) | (simp; omega)) _) | assumption | (refine bthru (by assumption) ?_))))
        have z_rx : (w.heap.size) < w2.heap.size := (by omega); have rx : w2.rangeAt (w.heap.size) 0 [.int .i64 i, .int .i64 m, .int .i64 c, .int .i64 p] := (by with_reducible repeat (first | exact range_new_at _ _ _ (by first | omega | (simp; done) | (simp; omega)) | apply range_put | (with_unfolding_all rfl) | (refine range_alloc ?_ (by first | omega | (simp; done) | (simp; omega)) _) | (refine range_drewN ?_ _) | (refine range_far ?_ (by first | omega | (simp; done) | (simp; omega)) _) | assumption | (refine range_below ?_ (by assumption) (by first | omega | (simp; done) | (simp; omega))))); have f_rx : Free w2 (w.heap.size) := (by with_reducible repeat (first | exact free_new_at _ _ _ (by first | omega | (simp; done) | (simp; omega)) | (refine free_set ?_ _ _) | (refine free_alloc ?_ (by first | omega | (simp; done) | (simp; omega)) _) | (refine free_drewN ?_ _) | assumption | (refine free_below ?_ (by assumption) (by first | omega | (simp; done) | (simp; omega)))))
        clear hb
        have rx_0 := range_cell rx 0 rfl; have rx_1 := range_cell rx 1 rfl; have rx_2 := range_cell rx 2 rfl; have rx_3 := range_cell rx 3 rfl
        have rx_f0 := f_rx 0; have rx_f1 := f_rx 1; have rx_f2 := f_rx 2; have rx_f3 := f_rx 3
        go_wp2_with fail
        refine (awake8_any _).mono ?_; rintro e w3 ⟨rfl, hb⟩; have hz := hb.size; try simp only [World.size_alloc, World.heap_drewN, World.size_setCell] at hz
        have := HB2.out
        go_wp2
        go_ret
        exact ⟨rfl, (by with_reducible repeat (first | exact Below.refl _ _ | apply kalloc | apply kept_drewN | (refine kset ?_ (by first | (simp; done) | (simp; omega)) _) | assumption | (refine bthru (by assumption) ?_)))⟩
      · have hc2 : c ≤ 1000 := by omega
        by_cases h3 : m = 3
        · subst h3
          have E := (Say.sooner_3 hr (by omega)).2
          rw [E] at D3a
          have q0 := Int.emod_nonneg (p + 1) (b := M) (by omega)
          have q1 := Int.emod_lt_of_pos (p + 1) (b := M) (by omega)
          have t1 : Int.tmod (p + 1) M = (p + 1) % M := Int.tmod_eq_emod_of_nonneg (by omega)
          have tz : (M == 0) = false := by simp; omega
          have dl : Say.due M i 3 c p ≤ 8 := by
            rw [Say.due_yes hr]; unfold Say.wait
            have := Int.emod_lt_of_pos (i - p) (b := M) (by omega)
            simp; omega
          generalize Say.due M i 3 c p = d at *
          generalize (p + 1) % M = q at *
          have T := Lib.hid t1
          clear E hr
          go_wp2_with fail
          refine (D1.out _).mono ?_; rintro e w1 ⟨rfl, hb⟩; have hz := hb.size; try simp only [World.size_alloc, World.heap_drewN, World.size_setCell] at hz
          have HB1 := Lib.hid (show Below w.heap.size w w1 from (by with_reducible repeat (first | exact Below.refl _ _ | apply kalloc | apply kept_drewN | (refine kset ?_ (by first | (simp; done) | (simp; omega)) _) | assumption | (refine bthru (by assumption) ?_))))
          have z_rx : (w.heap.size) < w1.heap.size := (by omega); have rx : w1.rangeAt (w.heap.size) 0 [.int .i64 i, .int .i64 3, .int .i64 c, .int .i64 p] := (by with_reducible repeat (first | exact range_new_at _ _ _ (by first | omega | (simp; done) | (simp; omega)) | apply range_put | (with_unfolding_all rfl) | (refine range_alloc ?_ (by first | omega | (simp; done) | (simp; omega)) _) | (refine range_drewN ?_ _) | (refine range_far ?_ (by first | omega | (simp; done) | (simp; omega)) _) | assumption | (refine range_below ?_ (by assumption) (by first | omega | (simp; done) | (simp; omega))))); have f_rx : Free w1 (w.heap.size) := (by with_reducible repeat (first | exact free_new_at _ _ _ (by first | omega | (simp; done) | (simp; omega)) | (refine free_set ?_ _ _) | (refine free_alloc ?_ (by first | omega | (simp; done) | (simp; omega)) _) | (refine free_drewN ?_ _) | assumption | (refine free_below ?_ (by assumption) (by first | omega | (simp; done) | (simp; omega)))))
          clear hb
          have rx_0 := range_cell rx 0 rfl; have rx_1 := range_cell rx 1 rfl; have rx_2 := range_cell rx 2 rfl; have rx_3 := range_cell rx 3 rfl
          have rx_f0 := f_rx 0; have rx_f1 := f_rx 1; have rx_f2 := f_rx 2; have rx_f3 := f_rx 3
          go_wp2_with fail
          refine (R1.out _).mono ?_; rintro e w2 ⟨rfl, hb⟩; have hz := hb.size; try simp only [World.size_alloc, World.heap_drewN, World.size_setCell] at hz
          have HB2 := Lib.hid (show Below w.heap.size w w2 from by have := HB1.out; exact (by with_reducible repeat (first | exact Below.refl _ _ | apply kalloc | apply kept_drewN | (refine kset ?_ (by first | (simp; done) | (simp; omega)) _) | assumption | (refine bthru (by assumption) ?_))))
          have z_rx : (w.heap.size) < w2.heap.size := (by omega); have rx : w2.rangeAt (w.heap.size) 0 [.int .i64 i, .int .i64 3, .int .i64 c, .int .i64 p] := (by with_reducible repeat (first | exact range_new_at _ _ _ (by first | omega | (simp; done) | (simp; omega)) | apply range_put | (with_unfolding_all rfl) | (refine range_alloc ?_ (by first | omega | (simp; done) | (simp; omega)) _) | (refine range_drewN ?_ _) | (refine range_far ?_ (by first | omega | (simp; done) | (simp; omega)) _) | assumption | (refine range_below ?_ (by assumption) (by first | omega | (simp; done) | (simp; omega))))); have f_rx : Free w2 (w.heap.size) := (by with_reducible repeat (first | exact free_new_at _ _ _ (by first | omega | (simp; done) | (simp; omega)) | (refine free_set ?_ _ _) | (refine free_alloc ?_ (by first | omega | (simp; done) | (simp; omega)) _) | (refine free_drewN ?_ _) | assumption | (refine free_below ?_ (by assumption) (by first | omega | (simp; done) | (simp; omega)))))
          clear hb
          have rx_0 := range_cell rx 0 rfl; have rx_1 := range_cell rx 1 rfl; have rx_2 := range_cell rx 2 rfl; have rx_3 := range_cell rx 3 rfl
          have rx_f0 := f_rx 0; have rx_f1 := f_rx 1; have rx_f2 := f_rx 2; have rx_f3 := f_rx 3
          go_wp2_with fail
          refine (awake8_any _).mono ?_; rintro e w3 ⟨rfl, hb⟩; have hz := hb.size; try simp only [World.size_alloc, World.heap_drewN, World.size_setCell] at hz
          have HB3 := Lib.hid (show Below w.heap.size w w3 from by have := HB2.out; exact (by with_reducible repeat (first | exact Below.refl _ _ | apply kalloc | apply kept_drewN | (refine kset ?_ (by first | (simp; done) | (simp; omega)) _) | assumption | (refine bthru (by assumption) ?_))))
          have z_rx : (w.heap.size) < w3.heap.size := (by omega); have rx : w3.rangeAt (w.heap.size) 0 [.int .i64 i, .int .i64 3, .int .i64 c, .int .i64 q] := (by with_reducible repeat (first | exact range_new_at _ _ _ (by first | omega | (simp; done) | (simp; omega)) | apply range_put | (with_unfolding_all rfl) | (refine range_alloc ?_ (by first | omega | (simp; done) | (simp; omega)) _) | (refine range_drewN ?_ _) | (refine range_far ?_ (by first | omega | (simp; done) | (simp; omega)) _) | assumption | (refine range_below ?_ (by assumption) (by first | omega | (simp; done) | (simp; omega)))))
          clear hb
          have rx_0 := range_cell rx 0 rfl; have rx_1 := range_cell rx 1 rfl; have rx_2 := range_cell rx 2 rfl; have rx_3 := range_cell rx 3 rfl
          go_wp2_with fail
          refine (D3a.out _).mono ?_; rintro e w4 ⟨rfl, hb⟩; have hz := hb.size; try simp only [World.size_alloc, World.heap_drewN, World.size_setCell] at hz
          have := HB3.out
          go_wp2
          go_ret
          exact ⟨rfl, (by with_reducible repeat (first | exact Below.refl _ _ | apply kalloc | apply kept_drewN | (refine kset ?_ (by first | (simp; done) | (simp; omega)) _) | assumption | (refine bthru (by assumption) ?_)))⟩
        · have E := (Say.sooner_12 hr h3 hc2 (by omega)).2
          rw [E] at D3b
          have h3b : (m == 3) = false := by simp [h3]
          have dl : Say.due M i m c p ≤ 1000 := by
            rw [Say.due_yes hr]; unfold Say.wait
            (repeat split) <;> omega
          generalize Say.due M i m c p = d at *
          clear E hr
          go_wp2_with fail
          refine (D1.out _).mono ?_; rintro e w1 ⟨rfl, hb⟩; have hz := hb.size; try simp only [World.size_alloc, World.heap_drewN, World.size_setCell] at hz
          have HB1 := Lib.hid (show Below w.heap.size w w1 from (by with_reducible repeat (first | exact Below.refl _ _ | apply kalloc | apply kept_drewN | (refine kset ?_ (by first | (simp; done) | (simp; omega)) _) | assumption | (refine bthru (by assumption) ?_))))
          have z_rx : (w.heap.size) < w1.heap.size := (by omega); have rx : w1.rangeAt (w.heap.size) 0 [.int .i64 i, .int .i64 m, .int .i64 c, .int .i64 p] := (by with_reducible repeat (first | exact range_new_at _ _ _ (by first | omega | (simp; done) | (simp; omega)) | apply range_put | (with_unfolding_all rfl) | (refine range_alloc ?_ (by first | omega | (simp; done) | (simp; omega)) _) | (refine range_drewN ?_ _) | (refine range_far ?_ (by first | omega | (simp; done) | (simp; omega)) _) | assumption | (refine range_below ?_ (by assumption) (by first | omega | (simp; done) | (simp; omega))))); have f_rx : Free w1 (w.heap.size) := (by with_reducible repeat (first | exact free_new_at _ _ _ (by first | omega | (simp; done) | (simp; omega)) | (refine free_set ?_ _ _) | (refine free_alloc ?_ (by first | omega | (simp; done) | (simp; omega)) _) | (refine free_drewN ?_ _) | assumption | (refine free_below ?_ (by assumption) (by first | omega | (simp; done) | (simp; omega)))))
          clear hb
          have rx_0 := range_cell rx 0 rfl; have rx_1 := range_cell rx 1 rfl; have rx_2 := range_cell rx 2 rfl; have rx_3 := range_cell rx 3 rfl
          have rx_f0 := f_rx 0; have rx_f1 := f_rx 1; have rx_f2 := f_rx 2; have rx_f3 := f_rx 3
          go_wp2_with fail
          refine (R1.out _).mono ?_; rintro e w2 ⟨rfl, hb⟩; have hz := hb.size; try simp only [World.size_alloc, World.heap_drewN, World.size_setCell] at hz
          have HB2 := Lib.hid (show Below w.heap.size w w2 from by have := HB1.out; exact (by with_reducible repeat (first | exact Below.refl _ _ | apply kalloc | apply kept_drewN | (refine kset ?_ (by first | (simp; done) | (simp; omega)) _) | assumption | (refine bthru (by assumption) ?_))))
          have z_rx : (w.heap.size) < w2.heap.size := (by omega); have rx : w2.rangeAt (w.heap.size) 0 [.int .i64 i, .int .i64 m, .int .i64 c, .int .i64 p] := (by with_reducible repeat (first | exact range_new_at _ _ _ (by first | omega | (simp; done) | (simp; omega)) | apply range_put | (with_unfolding_all rfl) | (refine range_alloc ?_ (by first | omega | (simp; done) | (simp; omega)) _) | (refine range_drewN ?_ _) | (refine range_far ?_ (by first | omega | (simp; done) | (simp; omega)) _) | assumption | (refine range_below ?_ (by assumption) (by first | omega | (simp; done) | (simp; omega))))); have f_rx : Free w2 (w.heap.size) := (by with_reducible repeat (first | exact free_new_at _ _ _ (by first | omega | (simp; done) | (simp; omega)) | (refine free_set ?_ _ _) | (refine free_alloc ?_ (by first | omega | (simp; done) | (simp; omega)) _) | (refine free_drewN ?_ _) | assumption | (refine free_below ?_ (by assumption) (by first | omega | (simp; done) | (simp; omega)))))
          clear hb
          have rx_0 := range_cell rx 0 rfl; have rx_1 := range_cell rx 1 rfl; have rx_2 := range_cell rx 2 rfl; have rx_3 := range_cell rx 3 rfl
          have rx_f0 := f_rx 0; have rx_f1 := f_rx 1; have rx_f2 := f_rx 2; have rx_f3 := f_rx 3
          go_wp2_with fail
          refine (awake8_any _).mono ?_; rintro e w3 ⟨rfl, hb⟩; have hz := hb.size; try simp only [World.size_alloc, World.heap_drewN, World.size_setCell] at hz
          have HB3 := Lib.hid (show Below w.heap.size w w3 from by have := HB2.out; exact (by with_reducible repeat (first | exact Below.refl _ _ | apply kalloc | apply kept_drewN | (refine kset ?_ (by first | (simp; done) | (simp; omega)) _) | assumption | (refine bthru (by assumption) ?_))))
          have z_rx : (w.heap.size) < w3.heap.size := (by omega); have rx : w3.rangeAt (w.heap.size) 0 [.int .i64 i, .int .i64 m, .int .i64 (c + 1), .int .i64 p] := (by with_reducible repeat (first | exact range_new_at _ _ _ (by first | omega | (simp; done) | (simp; omega)) | apply range_put | (with_unfolding_all rfl) | (refine range_alloc ?_ (by first | omega | (simp; done) | (simp; omega)) _) | (refine range_drewN ?_ _) | (refine range_far ?_ (by first | omega | (simp; done) | (simp; omega)) _) | assumption | (refine range_below ?_ (by assumption) (by first | omega | (simp; done) | (simp; omega)))))
          clear hb
          have rx_0 := range_cell rx 0 rfl; have rx_1 := range_cell rx 1 rfl; have rx_2 := range_cell rx 2 rfl; have rx_3 := range_cell rx 3 rfl
          go_wp2_with fail
          refine (D3b.out _).mono ?_; rintro e w4 ⟨rfl, hb⟩; have hz := hb.size; try simp only [World.size_alloc, World.heap_drewN, World.size_setCell] at hz
          have := HB3.out
          go_wp2
          go_ret
          exact ⟨rfl, (by with_reducible repeat (first | exact Below.refl _ _ | apply kalloc | apply kept_drewN | (refine kset ?_ (by first | (simp; done) | (simp; omega)) _) | assumption | (refine bthru (by assumption) ?_)))⟩
    · have hr := Bool.eq_false_iff.2 hr
      rw [hr] at R1
      generalize Say.due M i m c p = d at *
      clear hd hr
      go_wp2_with fail
      refine (D1.out _).mono ?_; rintro e w1 ⟨rfl, hb⟩; have hz := hb.size; try simp only [World.size_alloc, World.heap_drewN, World.size_setCell] at hz
      have HB1 := Lib.hid (show Below w.heap.size w w1 from (by with_reducible repeat (first | exact Below.refl _ _ | apply kalloc | apply kept_drewN | (refine kset ?_ (by first | (simp; done) | (simp; omega)) _) | assumption | (refine bthru (by assumption) ?_))))
      have z_rx : (w.heap.size) < w1.heap.size := (by omega); have rx : w1.rangeAt (w.heap.size) 0 [.int .i64 i, .int .i64 m, .int .i64 c, .int .i64 p] := (by with_reducible repeat (first | exact range_new_at _ _ _ (by first | omega | (simp; done) | (simp; omega)) | apply range_put | (with_unfolding_all rfl) | (refine range_alloc ?_ (by first | omega | (simp; done) | (simp; omega)) _) | (refine range_drewN ?_ _) | (refine range_far ?_ (by first | omega | (simp; done) | (simp; omega)) _) | assumption | (refine range_below ?_ (by assumption) (by first | omega | (simp; done) | (simp; omega))))); have f_rx : Free w1 (w.heap.size) := (by with_reducible repeat (first | exact free_new_at _ _ _ (by first | omega | (simp; done) | (simp; omega)) | (refine free_set ?_ _ _) | (refine free_alloc ?_ (by first | omega | (simp; done) | (simp; omega)) _) | (refine free_drewN ?_ _) | assumption | (refine free_below ?_ (by assumption) (by first | omega | (simp; done) | (simp; omega)))))
      clear hb
      have rx_0 := range_cell rx 0 rfl; have rx_1 := range_cell rx 1 rfl; have rx_2 := range_cell rx 2 rfl; have rx_3 := range_cell rx 3 rfl
      have rx_f0 := f_rx 0; have rx_f1 := f_rx 1; have rx_f2 := f_rx 2; have rx_f3 := f_rx 3
      go_wp2_with fail
      refine (R1.out _).mono ?_; rintro e w2 ⟨rfl, hb⟩; have hz := hb.size; try simp only [World.size_alloc, World.heap_drewN, World.size_setCell] at hz
      have HB2 := Lib.hid (show Below w.heap.size w w2 from by have := HB1.out; exact (by with_reducible repeat (first | exact Below.refl _ _ | apply kalloc | apply kept_drewN | (refine kset ?_ (by first | (simp; done) | (simp; omega)) _) | assumption | (refine bthru (by assumption) ?_))))
      have z_rx : (w.heap.size) < w2.heap.size := (by omega); have rx : w2.rangeAt (w.heap.size) 0 [.int .i64 i, .int .i64 m, .int .i64 c, .int .i64 p] := (by with_reducible repeat (first | exact range_new_at _ _ _ (by first | omega | (simp; done) | (simp; omega)) | apply range_put | (with_unfolding_all rfl) | (refine range_alloc ?_ (by first | omega | (simp; done) | (simp; omega)) _) | (refine range_drewN ?_ _) | (refine range_far ?_ (by first | omega | (simp; done) | (simp; omega)) _) | assumption | (refine range_below ?_ (by assumption) (by first | omega | (simp; done) | (simp; omega))))); have f_rx : Free w2 (w.heap.size) := (by with_reducible repeat (first | exact free_new_at _ _ _ (by first | omega | (simp; done) | (simp; omega)) | (refine free_set ?_ _ _) | (refine free_alloc ?_ (by first | omega | (simp; done) | (simp; omega)) _) | (refine free_drewN ?_ _) | assumption | (refine free_below ?_ (by assumption) (by first | omega | (simp; done) | (simp; omega)))))
      clear hb
      have rx_0 := range_cell rx 0 rfl; have rx_1 := range_cell rx 1 rfl; have rx_2 := range_cell rx 2 rfl; have rx_3 := range_cell rx 3 rfl
      have rx_f0 := f_rx 0; have rx_f1 := f_rx 1; have rx_f2 := f_rx 2; have rx_f3 := f_rx 3
      go_wp2_with fail
      refine (awake8_any _).mono ?_; rintro e w3 ⟨rfl, hb⟩; have hz := hb.size; try simp only [World.size_alloc, World.heap_drewN, World.size_setCell] at hz
      have := HB2.out
      go_wp2
      go_ret
      exact ⟨rfl, (by with_reducible repeat (first | exact Below.refl _ _ | apply kalloc | apply kept_drewN | (refine kset ?_ (by first | (simp; done) | (simp; omega)) _) | assumption | (refine bthru (by assumption) ?_)))⟩
end Go.Proofs.Ytlhhmkjhhiimlaa
