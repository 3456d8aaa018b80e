
import Derived.Test.YtdklobpembmbbaaRows
import Derived.Test.YtdklobpembmbbaaHearC
import Derived.LoopN
import Derived.LoopTactic
import Derived.Deep.QuietTactic
import Derived.BigQuiet
import Derived.RegionTactic
namespace Go.Proofs.Ytdklobpembmbbaa
set_option linter.unusedVariables false
open Go.ChangeShapes Go.WideShapes Go.RowKit
attribute [local go_sem] two_eq
theorem drew_as (w : World) : w.drew = w.drewN 1 := rfl

theorem hearThere_big1 (n : Nat) (hn : n < 256) (a : ByteArray) (ha : a.size ≤ maxLen) (b : ByteArray) (hb' : b.size ≤ maxLen) (c : ByteArray) (hc' : c.size ≤ maxLen) (h1 : decide ((100 : Int) < a.size) = true) (w : World) :
    Calls Try.prog 4 #[.agg #[.int .u8 n, .string a, .string b, .string c]] w fun e w' => e = .returned (.bool true) ∧ Below w.heap.size w w' := by
  go_enter Try.func4, Try.ntmps4
  go_wp2_with fail
  go_region
  go_wp2_with fail
  rw [drew_as]
  refine (awake7_any _).mono ?_; rintro e w1 ⟨rfl, hb⟩; obtain ⟨hc, hf, hz⟩ := bcall hb; try simp only [World.size_alloc, World.heap_drewN] at hz
  go_wp2
  go_ret
  exact ⟨rfl, (by with_reducible repeat (first | exact Below.refl _ _ | apply kalloc | apply kept_drewN | (refine kset ?_ (by first | (simp; done) | (simp; omega)) _) | assumption | (refine bthru (by assumption) ?_)))⟩
theorem hearThere_big2 (n : Nat) (hn : n < 256) (a : ByteArray) (ha : a.size ≤ maxLen) (b : ByteArray) (hb' : b.size ≤ maxLen) (c : ByteArray) (hc' : c.size ≤ maxLen) (h1 : decide ((100 : Int) < a.size) = false) (h2 : decide ((100 : Int) < b.size) = true) (w : World) :
    Calls Try.prog 4 #[.agg #[.int .u8 n, .string a, .string b, .string c]] w fun e w' => e = .returned (.bool true) ∧ Below w.heap.size w w' := by
  go_enter Try.func4, Try.ntmps4
  go_wp2_with fail
  go_region
  go_wp2_with fail
  rw [drew_as]
  refine (awake7_any _).mono ?_; rintro e w1 ⟨rfl, hb⟩; obtain ⟨hc, hf, hz⟩ := bcall hb; try simp only [World.size_alloc, World.heap_drewN] at hz
  go_wp2
  go_ret
  exact ⟨rfl, (by with_reducible repeat (first | exact Below.refl _ _ | apply kalloc | apply kept_drewN | (refine kset ?_ (by first | (simp; done) | (simp; omega)) _) | assumption | (refine bthru (by assumption) ?_)))⟩
theorem hearThere_big3 (n : Nat) (hn : n < 256) (a : ByteArray) (ha : a.size ≤ maxLen) (b : ByteArray) (hb' : b.size ≤ maxLen) (c : ByteArray) (hc' : c.size ≤ maxLen) (h1 : decide ((100 : Int) < a.size) = false) (h2 : decide ((100 : Int) < b.size) = false) (h3 : decide ((100 : Int) < c.size) = true) (w : World) :
    Calls Try.prog 4 #[.agg #[.int .u8 n, .string a, .string b, .string c]] w fun e w' => e = .returned (.bool true) ∧ Below w.heap.size w w' := by
  go_enter Try.func4, Try.ntmps4
  go_wp2_with fail
  go_region
  go_wp2_with fail
  rw [drew_as]
  refine (awake7_any _).mono ?_; rintro e w1 ⟨rfl, hb⟩; obtain ⟨hc, hf, hz⟩ := bcall hb; try simp only [World.size_alloc, World.heap_drewN] at hz
  go_wp2
  go_ret
  exact ⟨rfl, (by with_reducible repeat (first | exact Below.refl _ _ | apply kalloc | apply kept_drewN | (refine kset ?_ (by first | (simp; done) | (simp; omega)) _) | assumption | (refine bthru (by assumption) ?_)))⟩
/-- What is heard of a channel: nothing, or a frame of a node that there is. -/
def Hear.In (m x y : Int) : Prop := x = 0 ∧ y = 0 ∨ (x = 1 ∨ x = 2) ∧ decide (y < 0) = false ∧ decide (m ≤ y) = false
theorem Hear.in_of (m : Int) (l : List UInt8) : Hear.In m (Hear.hk m l) (Hear.hi m l) := by
  have h := Hear.there m l
  unfold Hear.In
  simp
  omega
set_option maxHeartbeats 1000000 in
theorem hearThere_small (n : Nat) (hn : n < 256) (a : ByteArray) (ha : a.size ≤ maxLen) (b : ByteArray) (hb' : b.size ≤ maxLen) (c : ByteArray) (hc' : c.size ≤ maxLen) (h1 : decide ((100 : Int) < a.size) = false) (h2 : decide ((100 : Int) < b.size) = false) (h3 : decide ((100 : Int) < c.size) = false) (w : World) :
    Calls Try.prog 4 #[.agg #[.int .u8 n, .string a, .string b, .string c]] w fun e w' => e = .returned (.bool true) ∧ Below w.heap.size w w' := by
  go_enter Try.func4, Try.ntmps4
  go_wp2_with fail
  go_region
  go_wp2_with fail
  have m1 : (3 : Int) ≤ 3 + (n : Int) % 6 := by omega
  have m8 : 3 + (n : Int) % 6 ≤ 8 := by omega
  generalize 3 + (n : Int) % 6 = m at *
  have hR : Conf.right m = true := Conf.right_spec.2 (by omega)
  have O1 := Lib.hid (hearOf_yes m a b ha hb' hR)
  have O2 := Lib.hid (hearOf_yes m a c ha hc' hR)
  have I0 := Lib.hid (Hear.in_of m a.data.toList)
  have I1 := Lib.hid (Hear.in_of m b.data.toList)
  unfold Hear.of at O1 O2
  generalize Hear.hk m a.data.toList = x0 at *
  generalize Hear.hi m a.data.toList = x1 at *
  generalize Hear.hk m b.data.toList = x2 at *
  generalize Hear.hi m b.data.toList = x3 at *
  generalize Hear.hk m c.data.toList = x4 at *
  generalize Hear.hi m c.data.toList = x5 at *
  clear hR
  rw [drew_as]
  refine (O1.out _).mono ?_; rintro e w1 ⟨rfl, hb⟩; have hz := hb.size; try simp only [World.size_alloc, World.heap_drewN, World.size_setCell] at hz
  have HB1 := Lib.hid (show Below w.heap.size w w1 from (by with_reducible repeat (first | exact Below.refl _ _ | apply kalloc | apply kept_drewN | (refine kset ?_ (by first | (simp; done) | (simp; omega)) _) | assumption | (refine bthru (by assumption) ?_))))
  clear hb
  go_wp2_with fail
  refine (O2.out _).mono ?_; rintro e w2 ⟨rfl, hb⟩; have hz := hb.size; try simp only [World.size_alloc, World.heap_drewN, World.size_setCell] at hz
  have HB2 := Lib.hid (show Below w.heap.size w w2 from by have := HB1.out; exact (by with_reducible repeat (first | exact Below.refl _ _ | apply kalloc | apply kept_drewN | (refine kset ?_ (by first | (simp; done) | (simp; omega)) _) | assumption | (refine bthru (by assumption) ?_))))
  have z_ra : (w1.heap.size) < w2.heap.size := (by omega); have ra : w2.rangeAt (w1.heap.size) 0 [.int .i64 x0, .int .i64 x1, .int .i64 x2, .int .i64 x3] := (by with_reducible repeat (first | exact range_new_at _ _ _ (by first | omega | (simp; done) | (simp; omega)) | apply range_put | (with_unfolding_all rfl) | (refine range_alloc ?_ (by first | omega | (simp; done) | (simp; omega)) _) | (refine range_drewN ?_ _) | (refine range_far ?_ (by first | omega | (simp; done) | (simp; omega)) _) | assumption | (refine range_below ?_ (by assumption) (by first | omega | (simp; done) | (simp; omega)))))
  clear hb
  have ra_0 := range_cell ra 0 rfl; have ra_1 := range_cell ra 1 rfl; have ra_2 := range_cell ra 2 rfl; have ra_3 := range_cell ra 3 rfl
  go_wp2_with fail
  refine wp_loop_rounds 3 ?_
  rw [rounds_succ]
  rcases I0.out with ⟨rfl, rfl⟩ | ⟨rfl | rfl, y0, y1⟩
  · go_wp2_with fail
    rw [rounds_succ]
    rcases I1.out with ⟨rfl, rfl⟩ | ⟨rfl | rfl, y2, y3⟩
    · go_wp2_with fail
      rw [rounds_succ]
      go_wp2_with fail
      refine (awake7_any _).mono ?_; rintro e w3 ⟨rfl, hb⟩; have hz := hb.size; try simp only [World.size_alloc, World.heap_drewN, World.size_setCell] at hz
      have := HB2.out
      have HB3 := Lib.hid (show Below w.heap.size w w3 from (by with_reducible repeat (first | exact Below.refl _ _ | apply kalloc | apply kept_drewN | (refine kset ?_ (by first | (simp; done) | (simp; omega)) _) | assumption | (refine bthru (by assumption) ?_))))
      have z_rb : (w1.heap.size) < w3.heap.size := (by omega); have rb : w3.rangeAt (w1.heap.size) 0 [.int .i64 0, .int .i64 0, .int .i64 0, .int .i64 0] := (by with_reducible repeat (first | exact range_new_at _ _ _ (by first | omega | (simp; done) | (simp; omega)) | apply range_put | (with_unfolding_all rfl) | (refine range_alloc ?_ (by first | omega | (simp; done) | (simp; omega)) _) | (refine range_drewN ?_ _) | (refine range_far ?_ (by first | omega | (simp; done) | (simp; omega)) _) | assumption | (refine range_below ?_ (by assumption) (by first | omega | (simp; done) | (simp; omega)))))
      have z_rc : (w2.heap.size) < w3.heap.size := (by omega); have rc : w3.rangeAt (w2.heap.size) 0 [.int .i64 0, .int .i64 0, .int .i64 x4, .int .i64 x5] := (by with_reducible repeat (first | exact range_new_at _ _ _ (by first | omega | (simp; done) | (simp; omega)) | apply range_put | (with_unfolding_all rfl) | (refine range_alloc ?_ (by first | omega | (simp; done) | (simp; omega)) _) | (refine range_drewN ?_ _) | (refine range_far ?_ (by first | omega | (simp; done) | (simp; omega)) _) | assumption | (refine range_below ?_ (by assumption) (by first | omega | (simp; done) | (simp; omega)))))
      clear hb this
      have rb_0 := range_cell rb 0 rfl; have rb_1 := range_cell rb 1 rfl; have rb_2 := range_cell rb 2 rfl; have rb_3 := range_cell rb 3 rfl
      have rc_0 := range_cell rc 0 rfl; have rc_1 := range_cell rc 1 rfl; have rc_2 := range_cell rc 2 rfl; have rc_3 := range_cell rc 3 rfl
      go_wp2
      go_ret
      exact ⟨rfl, HB3.out⟩
    · go_wp2_with fail
      rw [rounds_succ]
      go_wp2_with fail
      refine (awake7_any _).mono ?_; rintro e w3 ⟨rfl, hb⟩; have hz := hb.size; try simp only [World.size_alloc, World.heap_drewN, World.size_setCell] at hz
      have := HB2.out
      have HB3 := Lib.hid (show Below w.heap.size w w3 from (by with_reducible repeat (first | exact Below.refl _ _ | apply kalloc | apply kept_drewN | (refine kset ?_ (by first | (simp; done) | (simp; omega)) _) | assumption | (refine bthru (by assumption) ?_))))
      have z_rb : (w1.heap.size) < w3.heap.size := (by omega); have rb : w3.rangeAt (w1.heap.size) 0 [.int .i64 0, .int .i64 0, .int .i64 1, .int .i64 x3] := (by with_reducible repeat (first | exact range_new_at _ _ _ (by first | omega | (simp; done) | (simp; omega)) | apply range_put | (with_unfolding_all rfl) | (refine range_alloc ?_ (by first | omega | (simp; done) | (simp; omega)) _) | (refine range_drewN ?_ _) | (refine range_far ?_ (by first | omega | (simp; done) | (simp; omega)) _) | assumption | (refine range_below ?_ (by assumption) (by first | omega | (simp; done) | (simp; omega)))))
      have z_rc : (w2.heap.size) < w3.heap.size := (by omega); have rc : w3.rangeAt (w2.heap.size) 0 [.int .i64 0, .int .i64 0, .int .i64 x4, .int .i64 x5] := (by with_reducible repeat (first | exact range_new_at _ _ _ (by first | omega | (simp; done) | (simp; omega)) | apply range_put | (with_unfolding_all rfl) | (refine range_alloc ?_ (by first | omega | (simp; done) | (simp; omega)) _) | (refine range_drewN ?_ _) | (refine range_far ?_ (by first | omega | (simp; done) | (simp; omega)) _) | assumption | (refine range_below ?_ (by assumption) (by first | omega | (simp; done) | (simp; omega)))))
      clear hb this
      have rb_0 := range_cell rb 0 rfl; have rb_1 := range_cell rb 1 rfl; have rb_2 := range_cell rb 2 rfl; have rb_3 := range_cell rb 3 rfl
      have rc_0 := range_cell rc 0 rfl; have rc_1 := range_cell rc 1 rfl; have rc_2 := range_cell rc 2 rfl; have rc_3 := range_cell rc 3 rfl
      go_wp2
      go_ret
      exact ⟨rfl, HB3.out⟩
    · go_wp2_with fail
      rw [rounds_succ]
      go_wp2_with fail
      refine (awake7_any _).mono ?_; rintro e w3 ⟨rfl, hb⟩; have hz := hb.size; try simp only [World.size_alloc, World.heap_drewN, World.size_setCell] at hz
      have := HB2.out
      have HB3 := Lib.hid (show Below w.heap.size w w3 from (by with_reducible repeat (first | exact Below.refl _ _ | apply kalloc | apply kept_drewN | (refine kset ?_ (by first | (simp; done) | (simp; omega)) _) | assumption | (refine bthru (by assumption) ?_))))
      have z_rb : (w1.heap.size) < w3.heap.size := (by omega); have rb : w3.rangeAt (w1.heap.size) 0 [.int .i64 0, .int .i64 0, .int .i64 2, .int .i64 x3] := (by with_reducible repeat (first | exact range_new_at _ _ _ (by first | omega | (simp; done) | (simp; omega)) | apply range_put | (with_unfolding_all rfl) | (refine range_alloc ?_ (by first | omega | (simp; done) | (simp; omega)) _) | (refine range_drewN ?_ _) | (refine range_far ?_ (by first | omega | (simp; done) | (simp; omega)) _) | assumption | (refine range_below ?_ (by assumption) (by first | omega | (simp; done) | (simp; omega)))))
      have z_rc : (w2.heap.size) < w3.heap.size := (by omega); have rc : w3.rangeAt (w2.heap.size) 0 [.int .i64 0, .int .i64 0, .int .i64 x4, .int .i64 x5] := (by with_reducible repeat (first | exact range_new_at _ _ _ (by first | omega | (simp; done) | (simp; omega)) | apply range_put | (with_unfolding_all rfl) | (refine range_alloc ?_ (by first | omega | (simp; done) | (simp; omega)) _) | (refine range_drewN ?_ _) | (refine range_far ?_ (by first | omega | (simp; done) | (simp; omega)) _) | assumption | (refine range_below ?_ (by assumption) (by first | omega | (simp; done) | (simp; omega)))))
      clear hb this
      have rb_0 := range_cell rb 0 rfl; have rb_1 := range_cell rb 1 rfl; have rb_2 := range_cell rb 2 rfl; have rb_3 := range_cell rb 3 rfl
      have rc_0 := range_cell rc 0 rfl; have rc_1 := range_cell rc 1 rfl; have rc_2 := range_cell rc 2 rfl; have rc_3 := range_cell rc 3 rfl
      go_wp2
      go_ret
      exact ⟨rfl, HB3.out⟩
  · go_wp2_with fail
    rw [rounds_succ]
    rcases I1.out with ⟨rfl, rfl⟩ | ⟨rfl | rfl, y2, y3⟩
    · go_wp2_with fail
      rw [rounds_succ]
      go_wp2_with fail
      refine (awake7_any _).mono ?_; rintro e w3 ⟨rfl, hb⟩; have hz := hb.size; try simp only [World.size_alloc, World.heap_drewN, World.size_setCell] at hz
      have := HB2.out
      have HB3 := Lib.hid (show Below w.heap.size w w3 from (by with_reducible repeat (first | exact Below.refl _ _ | apply kalloc | apply kept_drewN | (refine kset ?_ (by first | (simp; done) | (simp; omega)) _) | assumption | (refine bthru (by assumption) ?_))))
      have z_rb : (w1.heap.size) < w3.heap.size := (by omega); have rb : w3.rangeAt (w1.heap.size) 0 [.int .i64 1, .int .i64 x1, .int .i64 0, .int .i64 0] := (by with_reducible repeat (first | exact range_new_at _ _ _ (by first | omega | (simp; done) | (simp; omega)) | apply range_put | (with_unfolding_all rfl) | (refine range_alloc ?_ (by first | omega | (simp; done) | (simp; omega)) _) | (refine range_drewN ?_ _) | (refine range_far ?_ (by first | omega | (simp; done) | (simp; omega)) _) | assumption | (refine range_below ?_ (by assumption) (by first | omega | (simp; done) | (simp; omega)))))
      have z_rc : (w2.heap.size) < w3.heap.size := (by omega); have rc : w3.rangeAt (w2.heap.size) 0 [.int .i64 1, .int .i64 x1, .int .i64 x4, .int .i64 x5] := (by with_reducible repeat (first | exact range_new_at _ _ _ (by first | omega | (simp; done) | (simp; omega)) | apply range_put | (with_unfolding_all rfl) | (refine range_alloc ?_ (by first | omega | (simp; done) | (simp; omega)) _) | (refine range_drewN ?_ _) | (refine range_far ?_ (by first | omega | (simp; done) | (simp; omega)) _) | assumption | (refine range_below ?_ (by assumption) (by first | omega | (simp; done) | (simp; omega)))))
      clear hb this
      have rb_0 := range_cell rb 0 rfl; have rb_1 := range_cell rb 1 rfl; have rb_2 := range_cell rb 2 rfl; have rb_3 := range_cell rb 3 rfl
      have rc_0 := range_cell rc 0 rfl; have rc_1 := range_cell rc 1 rfl; have rc_2 := range_cell rc 2 rfl; have rc_3 := range_cell rc 3 rfl
      go_wp2
      go_ret
      exact ⟨rfl, HB3.out⟩
    · go_wp2_with fail
      rw [rounds_succ]
      go_wp2_with fail
      refine (awake7_any _).mono ?_; rintro e w3 ⟨rfl, hb⟩; have hz := hb.size; try simp only [World.size_alloc, World.heap_drewN, World.size_setCell] at hz
      have := HB2.out
      have HB3 := Lib.hid (show Below w.heap.size w w3 from (by with_reducible repeat (first | exact Below.refl _ _ | apply kalloc | apply kept_drewN | (refine kset ?_ (by first | (simp; done) | (simp; omega)) _) | assumption | (refine bthru (by assumption) ?_))))
      have z_rb : (w1.heap.size) < w3.heap.size := (by omega); have rb : w3.rangeAt (w1.heap.size) 0 [.int .i64 1, .int .i64 x1, .int .i64 1, .int .i64 x3] := (by with_reducible repeat (first | exact range_new_at _ _ _ (by first | omega | (simp; done) | (simp; omega)) | apply range_put | (with_unfolding_all rfl) | (refine range_alloc ?_ (by first | omega | (simp; done) | (simp; omega)) _) | (refine range_drewN ?_ _) | (refine range_far ?_ (by first | omega | (simp; done) | (simp; omega)) _) | assumption | (refine range_below ?_ (by assumption) (by first | omega | (simp; done) | (simp; omega)))))
      have z_rc : (w2.heap.size) < w3.heap.size := (by omega); have rc : w3.rangeAt (w2.heap.size) 0 [.int .i64 1, .int .i64 x1, .int .i64 x4, .int .i64 x5] := (by with_reducible repeat (first | exact range_new_at _ _ _ (by first | omega | (simp; done) | (simp; omega)) | apply range_put | (with_unfolding_all rfl) | (refine range_alloc ?_ (by first | omega | (simp; done) | (simp; omega)) _) | (refine range_drewN ?_ _) | (refine range_far ?_ (by first | omega | (simp; done) | (simp; omega)) _) | assumption | (refine range_below ?_ (by assumption) (by first | omega | (simp; done) | (simp; omega)))))
      clear hb this
      have rb_0 := range_cell rb 0 rfl; have rb_1 := range_cell rb 1 rfl; have rb_2 := range_cell rb 2 rfl; have rb_3 := range_cell rb 3 rfl
      have rc_0 := range_cell rc 0 rfl; have rc_1 := range_cell rc 1 rfl; have rc_2 := range_cell rc 2 rfl; have rc_3 := range_cell rc 3 rfl
      go_wp2
      go_ret
      exact ⟨rfl, HB3.out⟩
    · go_wp2_with fail
      rw [rounds_succ]
      go_wp2_with fail
      refine (awake7_any _).mono ?_; rintro e w3 ⟨rfl, hb⟩; have hz := hb.size; try simp only [World.size_alloc, World.heap_drewN, World.size_setCell] at hz
      have := HB2.out
      have HB3 := Lib.hid (show Below w.heap.size w w3 from (by with_reducible repeat (first | exact Below.refl _ _ | apply kalloc | apply kept_drewN | (refine kset ?_ (by first | (simp; done) | (simp; omega)) _) | assumption | (refine bthru (by assumption) ?_))))
      have z_rb : (w1.heap.size) < w3.heap.size := (by omega); have rb : w3.rangeAt (w1.heap.size) 0 [.int .i64 1, .int .i64 x1, .int .i64 2, .int .i64 x3] := (by with_reducible repeat (first | exact range_new_at _ _ _ (by first | omega | (simp; done) | (simp; omega)) | apply range_put | (with_unfolding_all rfl) | (refine range_alloc ?_ (by first | omega | (simp; done) | (simp; omega)) _) | (refine range_drewN ?_ _) | (refine range_far ?_ (by first | omega | (simp; done) | (simp; omega)) _) | assumption | (refine range_below ?_ (by assumption) (by first | omega | (simp; done) | (simp; omega)))))
      have z_rc : (w2.heap.size) < w3.heap.size := (by omega); have rc : w3.rangeAt (w2.heap.size) 0 [.int .i64 1, .int .i64 x1, .int .i64 x4, .int .i64 x5] := (by with_reducible repeat (first | exact range_new_at _ _ _ (by first | omega | (simp; done) | (simp; omega)) | apply range_put | (with_unfolding_all rfl) | (refine range_alloc ?_ (by first | omega | (simp; done) | (simp; omega)) _) | (refine range_drewN ?_ _) | (refine range_far ?_ (by first | omega | (simp; done) | (simp; omega)) _) | assumption | (refine range_below ?_ (by assumption) (by first | omega | (simp; done) | (simp; omega)))))
      clear hb this
      have rb_0 := range_cell rb 0 rfl; have rb_1 := range_cell rb 1 rfl; have rb_2 := range_cell rb 2 rfl; have rb_3 := range_cell rb 3 rfl
      have rc_0 := range_cell rc 0 rfl; have rc_1 := range_cell rc 1 rfl; have rc_2 := range_cell rc 2 rfl; have rc_3 := range_cell rc 3 rfl
      go_wp2
      go_ret
      exact ⟨rfl, HB3.out⟩
  · go_wp2_with fail
    rw [rounds_succ]
    rcases I1.out with ⟨rfl, rfl⟩ | ⟨rfl | rfl, y2, y3⟩
    · go_wp2_with fail
      rw [rounds_succ]
      go_wp2_with fail
      refine (awake7_any _).mono ?_; rintro e w3 ⟨rfl, hb⟩; have hz := hb.size; try simp only [World.size_alloc, World.heap_drewN, World.size_setCell] at hz
      have := HB2.out
      have HB3 := Lib.hid (show Below w.heap.size w w3 from (by with_reducible repeat (first | exact Below.refl _ _ | apply kalloc | apply kept_drewN | (refine kset ?_ (by first | (simp; done) | (simp; omega)) _) | assumption | (refine bthru (by assumption) ?_))))
      have z_rb : (w1.heap.size) < w3.heap.size := (by omega); have rb : w3.rangeAt (w1.heap.size) 0 [.int .i64 2, .int .i64 x1, .int .i64 0, .int .i64 0] := (by with_reducible repeat (first | exact range_new_at _ _ _ (by first | omega | (simp; done) | (simp; omega)) | apply range_put | (with_unfolding_all rfl) | (refine range_alloc ?_ (by first | omega | (simp; done) | (simp; omega)) _) | (refine range_drewN ?_ _) | (refine range_far ?_ (by first | omega | (simp; done) | (simp; omega)) _) | assumption | (refine range_below ?_ (by assumption) (by first | omega | (simp; done) | (simp; omega)))))
      have z_rc : (w2.heap.size) < w3.heap.size := (by omega); have rc : w3.rangeAt (w2.heap.size) 0 [.int .i64 2, .int .i64 x1, .int .i64 x4, .int .i64 x5] := (by with_reducible repeat (first | exact range_new_at _ _ _ (by first | omega | (simp; done) | (simp; omega)) | apply range_put | (with_unfolding_all rfl) | (refine range_alloc ?_ (by first | omega | (simp; done) | (simp; omega)) _) | (refine range_drewN ?_ _) | (refine range_far ?_ (by first | omega | (simp; done) | (simp; omega)) _) | assumption | (refine range_below ?_ (by assumption) (by first | omega | (simp; done) | (simp; omega)))))
      clear hb this
      have rb_0 := range_cell rb 0 rfl; have rb_1 := range_cell rb 1 rfl; have rb_2 := range_cell rb 2 rfl; have rb_3 := range_cell rb 3 rfl
      have rc_0 := range_cell rc 0 rfl; have rc_1 := range_cell rc 1 rfl; have rc_2 := range_cell rc 2 rfl; have rc_3 := range_cell rc 3 rfl
      go_wp2
      go_ret
      exact ⟨rfl, HB3.out⟩
    · go_wp2_with fail
      rw [rounds_succ]
      go_wp2_with fail
      refine (awake7_any _).mono ?_; rintro e w3 ⟨rfl, hb⟩; have hz := hb.size; try simp only [World.size_alloc, World.heap_drewN, World.size_setCell] at hz
      have := HB2.out
      have HB3 := Lib.hid (show Below w.heap.size w w3 from (by with_reducible repeat (first | exact Below.refl _ _ | apply kalloc | apply kept_drewN | (refine kset ?_ (by first | (simp; done) | (simp; omega)) _) | assumption | (refine bthru (by assumption) ?_))))
      have z_rb : (w1.heap.size) < w3.heap.size := (by omega); have rb : w3.rangeAt (w1.heap.size) 0 [.int .i64 2, .int .i64 x1, .int .i64 1, .int .i64 x3] := (by with_reducible repeat (first | exact range_new_at _ _ _ (by first | omega | (simp; done) | (simp; omega)) | apply range_put | (with_unfolding_all rfl) | (refine range_alloc ?_ (by first | omega | (simp; done) | (simp; omega)) _) | (refine range_drewN ?_ _) | (refine range_far ?_ (by first | omega | (simp; done) | (simp; omega)) _) | assumption | (refine range_below ?_ (by assumption) (by first | omega | (simp; done) | (simp; omega)))))
      have z_rc : (w2.heap.size) < w3.heap.size := (by omega); have rc : w3.rangeAt (w2.heap.size) 0 [.int .i64 2, .int .i64 x1, .int .i64 x4, .int .i64 x5] := (by with_reducible repeat (first | exact range_new_at _ _ _ (by first | omega | (simp; done) | (simp; omega)) | apply range_put | (with_unfolding_all rfl) | (refine range_alloc ?_ (by first | omega | (simp; done) | (simp; omega)) _) | (refine range_drewN ?_ _) | (refine range_far ?_ (by first | omega | (simp; done) | (simp; omega)) _) | assumption | (refine range_below ?_ (by assumption) (by first | omega | (simp; done) | (simp; omega)))))
      clear hb this
      have rb_0 := range_cell rb 0 rfl; have rb_1 := range_cell rb 1 rfl; have rb_2 := range_cell rb 2 rfl; have rb_3 := range_cell rb 3 rfl
      have rc_0 := range_cell rc 0 rfl; have rc_1 := range_cell rc 1 rfl; have rc_2 := range_cell rc 2 rfl; have rc_3 := range_cell rc 3 rfl
      go_wp2
      go_ret
      exact ⟨rfl, HB3.out⟩
    · go_wp2_with fail
      rw [rounds_succ]
      go_wp2_with fail
      refine (awake7_any _).mono ?_; rintro e w3 ⟨rfl, hb⟩; have hz := hb.size; try simp only [World.size_alloc, World.heap_drewN, World.size_setCell] at hz
      have := HB2.out
      have HB3 := Lib.hid (show Below w.heap.size w w3 from (by with_reducible repeat (first | exact Below.refl _ _ | apply kalloc | apply kept_drewN | (refine kset ?_ (by first | (simp; done) | (simp; omega)) _) | assumption | (refine bthru (by assumption) ?_))))
      have z_rb : (w1.heap.size) < w3.heap.size := (by omega); have rb : w3.rangeAt (w1.heap.size) 0 [.int .i64 2, .int .i64 x1, .int .i64 2, .int .i64 x3] := (by with_reducible repeat (first | exact range_new_at _ _ _ (by first | omega | (simp; done) | (simp; omega)) | apply range_put | (with_unfolding_all rfl) | (refine range_alloc ?_ (by first | omega | (simp; done) | (simp; omega)) _) | (refine range_drewN ?_ _) | (refine range_far ?_ (by first | omega | (simp; done) | (simp; omega)) _) | assumption | (refine range_below ?_ (by assumption) (by first | omega | (simp; done) | (simp; omega)))))
      have z_rc : (w2.heap.size) < w3.heap.size := (by omega); have rc : w3.rangeAt (w2.heap.size) 0 [.int .i64 2, .int .i64 x1, .int .i64 x4, .int .i64 x5] := (by with_reducible repeat (first | exact range_new_at _ _ _ (by first | omega | (simp; done) | (simp; omega)) | apply range_put | (with_unfolding_all rfl) | (refine range_alloc ?_ (by first | omega | (simp; done) | (simp; omega)) _) | (refine range_drewN ?_ _) | (refine range_far ?_ (by first | omega | (simp; done) | (simp; omega)) _) | assumption | (refine range_below ?_ (by assumption) (by first | omega | (simp; done) | (simp; omega)))))
      clear hb this
      have rb_0 := range_cell rb 0 rfl; have rb_1 := range_cell rb 1 rfl; have rb_2 := range_cell rb 2 rfl; have rb_3 := range_cell rb 3 rfl
      have rc_0 := range_cell rc 0 rfl; have rc_1 := range_cell rc 1 rfl; have rc_2 := range_cell rc 2 rfl; have rc_3 := range_cell rc 3 rfl
      go_wp2
      go_ret
      exact ⟨rfl, HB3.out⟩
theorem hearThere_walk (n : Nat) (hn : n < 256) (a : ByteArray) (ha : a.size ≤ maxLen) (b : ByteArray) (hb' : b.size ≤ maxLen) (c : ByteArray) (hc' : c.size ≤ maxLen) (w : World) :
    Calls Try.prog 4 #[.agg #[.int .u8 n, .string a, .string b, .string c]] w fun e w' => e = .returned (.bool true) ∧ Below w.heap.size w w' := by
  cases h1 : decide ((100 : Int) < a.size)
  · cases h2 : decide ((100 : Int) < b.size)
    · cases h3 : decide ((100 : Int) < c.size)
      · exact hearThere_small n hn a ha b hb' c hc' h1 h2 h3 w
      · exact hearThere_big3 n hn a ha b hb' c hc' h1 h2 h3 w
    · exact hearThere_big2 n hn a ha b hb' c hc' h1 h2 w
  · exact hearThere_big1 n hn a ha b hb' c hc' h1 w
end Go.Proofs.Ytdklobpembmbbaa
