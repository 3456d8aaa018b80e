
import Derived.Test.YtdklobpembmbbaaRows
import Derived.Test.YtdklobpembmbbaaWireD
import Derived.Test.YtdklobpembmbbaaConfA
import Derived.Test.YtdklobpembmbbaaHear0
import Derived.LoopN
import Derived.LoopTactic
import Derived.Deep.QuietTactic
import Derived.BigQuiet
import Derived.RegionTactic
namespace Go.Proofs.Ytdklobpembmbbaa
set_option linter.unusedVariables false
open Go.ChangeShapes Go.WideShapes Go.RowKit

theorem two_at0 (a b c d : Value) (w : World) : (Instr.index 24 (.agg #[a, b, c, d]) (.int .i64 0)).run Try.prog w = .ok (.agg #[a, b]) w := by kernel_rfl
theorem two_at1 (a b c d : Value) (w : World) : (Instr.index 24 (.agg #[a, b, c, d]) (.int .i64 1)).run Try.prog w = .ok (.agg #[c, d]) w := by kernel_rfl
attribute [local go_sem] two_at0 two_at1

theorem infoC_any (k i : Int) (w : World) :
    Calls Try.prog 24 #[.agg #[.int .i64 k, .int .i64 i]] w fun e w' => e = .returned (.bool (Hear.isInfo k)) ∧ Below w.heap.size w w' := by
  go_enter Try.func24, Try.ntmps24
  go_wp2
  go_ret
  exact ⟨rfl, (by with_reducible repeat (first | exact Below.refl _ _ | apply kalloc | apply kept_drewN | (refine kset ?_ (by first | (simp; done) | (simp; omega)) _) | assumption | (refine bthru (by assumption) ?_)))⟩
theorem otherC_any (k i x : Int) (b : Nat) (w : World) (hb : b < w.heap.size) (hx : w.cell? ⟨b, 0, none⟩ = some (.int .i64 x)) :
    Calls Try.prog 25 #[.agg #[.int .i64 k, .int .i64 i], .pointer (some ⟨b, 0, none⟩)] w fun e w' => e = .returned (.bool (Hear.isOther x k i)) ∧ Below w.heap.size w w' := by
  go_enter Try.func25, Try.ntmps25
  go_wp2
  all_goals
    go_ret
    exact ⟨ret_bool (by simp [Hear.isOther, *]), (by with_reducible repeat (first | exact Below.refl _ _ | apply kalloc | apply kept_drewN | (refine kset ?_ (by first | (simp; done) | (simp; omega)) _) | assumption | (refine bthru (by assumption) ?_)))⟩
theorem wrongC_any (k i x : Int) (b : Nat) (w : World) (hb : b < w.heap.size) (hx : w.cell? ⟨b, 0, none⟩ = some (.int .i64 x)) :
    Calls Try.prog 26 #[.agg #[.int .i64 k, .int .i64 i], .pointer (some ⟨b, 0, none⟩)] w fun e w' => e = .returned (.bool (Hear.isWrong x k i)) ∧ Below w.heap.size w w' := by
  go_enter Try.func26, Try.ntmps26
  go_wp2
  all_goals
    go_ret
    exact ⟨ret_bool (by simp [Hear.isWrong, *]), (by with_reducible repeat (first | exact Below.refl _ _ | apply kalloc | apply kept_drewN | (refine kset ?_ (by first | (simp; done) | (simp; omega)) _) | assumption | (refine bthru (by assumption) ?_)))⟩
theorem matchC_any (k i x : Int) (b : Nat) (w : World) (hb : b < w.heap.size) (hx : w.cell? ⟨b, 0, none⟩ = some (.int .i64 x)) :
    Calls Try.prog 27 #[.agg #[.int .i64 k, .int .i64 i], .pointer (some ⟨b, 0, none⟩)] w fun e w' => e = .returned (.bool (Hear.isMatch x k i)) ∧ Below w.heap.size w w' := by
  go_enter Try.func27, Try.ntmps27
  go_wp2
  all_goals
    go_ret
    exact ⟨ret_bool (by simp [Hear.isMatch, *]), (by with_reducible repeat (first | exact Below.refl _ _ | apply kalloc | apply kept_drewN | (refine kset ?_ (by first | (simp; done) | (simp; omega)) _) | assumption | (refine bthru (by assumption) ?_)))⟩
theorem ofC_any (k i n : Int) (b : Nat) (w : World) (hb : b < w.heap.size) (hx : w.cell? ⟨b, 0, none⟩ = some (.int .i64 n)) :
    Calls Try.prog 20 #[.agg #[.int .i64 k, .int .i64 i], .pointer (some ⟨b, 0, none⟩)] w fun e w' => e = .returned (.bool (Hear.kept n k i)) ∧ Below w.heap.size w w' := by
  go_enter Try.func20, Try.ntmps20
  go_wp2
  all_goals
    go_ret
    exact ⟨ret_bool (by simp [Hear.kept, *]), (by with_reducible repeat (first | exact Below.refl _ _ | apply kalloc | apply kept_drewN | (refine kset ?_ (by first | (simp; done) | (simp; omega)) _) | assumption | (refine bthru (by assumption) ?_)))⟩
/-- What is asked of a function that is handed in: it answers 'b' for a frame, wherever old memory is as it was. -/
def Hear.Says (W : World) (fn : Nat) (cap : Array Value) (k i : Int) (b : Bool) : Prop :=
  ∀ w, Below W.heap.size W w → Calls Try.prog fn (#[.agg #[.int .i64 k, .int .i64 i]] ++ cap) w fun e w' => e = .returned (.bool b) ∧ Below w.heap.size w w'
set_option maxHeartbeats 1000000 in
theorem first_any (fn : Nat) (cap : Array Value) (k0 i0 k1 i1 : Int) (b0 b1 : Bool) (w : World) (he : ∀ (args : Array Value) (w : World), (callFunc fn args).run Try.prog w = .ok (.enter fn args) w) (h0 : Hear.Says w fn cap k0 i0 b0) (h1 : Hear.Says w fn cap k1 i1 b1) :
    Calls Try.prog 23 #[.agg #[.int .i64 k0, .int .i64 i0, .int .i64 k1, .int .i64 i1], .func (.func fn) #[] cap] w fun e w' => e = .returned (.tuple #[.int .i64 (Hear.firstI b0 b1 i0 i1), .bool (b0 || b1)]) ∧ Below w.heap.size w w' := by
  have C0 := Lib.hid h0
  have C1 := Lib.hid h1
  clear h0 h1
  go_enter Try.func23, Try.ntmps23
  go_wp2_with fail
  refine wp_loop_rounds 3 ?_
  rw [rounds_succ]
  go_wp2_with fail
  refine (C0.out _ (by with_reducible repeat (first | exact Below.refl _ _ | apply kalloc | apply kept_drewN | (refine kset ?_ (by first | (simp; done) | (simp; omega)) _) | assumption | (refine bthru (by assumption) ?_)))).mono ?_; rintro e w1 ⟨rfl, hb⟩; have hz := hb.size; try simp only [World.size_alloc, World.heap_drewN, World.size_setCell] at hz
  have z_ra : (w.heap.size + 1) < w1.heap.size := (by omega); have ra : w1.rangeAt (w.heap.size + 1) 0 [.int .i64 k0, .int .i64 i0] := (by with_reducible repeat (first | exact range_new_at _ _ _ (by first | omega | (simp; done) | (simp; omega)) | apply range_put | (with_unfolding_all rfl) | (refine range_alloc ?_ (by first | omega | (simp; done) | (simp; omega)) _) | (refine range_drewN ?_ _) | (refine range_far ?_ (by first | omega | (simp; done) | (simp; omega)) _) | assumption | (refine range_below ?_ (by assumption) (by first | omega | (simp; done) | (simp; omega)))))
  have HB1 := Lib.hid (show Below w.heap.size w w1 from (by with_reducible repeat (first | exact Below.refl _ _ | apply kalloc | apply kept_drewN | (refine kset ?_ (by first | (simp; done) | (simp; omega)) _) | assumption | (refine bthru (by assumption) ?_))))
  clear hb
  have ra_0 := range_cell ra 0 rfl
  have ra_1 := range_cell ra 1 rfl
  cases b0
  · go_wp2_with fail
    rw [rounds_succ]
    go_wp2_with fail
    have hB1 := HB1.out; refine (C1.out _ (by with_reducible repeat (first | exact Below.refl _ _ | apply kalloc | apply kept_drewN | (refine kset ?_ (by first | (simp; done) | (simp; omega)) _) | assumption | (refine bthru (by assumption) ?_)))).mono ?_; rintro e w2 ⟨rfl, hb⟩; have hz := hb.size; try simp only [World.size_alloc, World.heap_drewN, World.size_setCell] at hz
    have z_rb : (w1.heap.size) < w2.heap.size := (by omega); have rb : w2.rangeAt (w1.heap.size) 0 [.int .i64 k1, .int .i64 i1] := (by with_reducible repeat (first | exact range_new_at _ _ _ (by first | omega | (simp; done) | (simp; omega)) | apply range_put | (with_unfolding_all rfl) | (refine range_alloc ?_ (by first | omega | (simp; done) | (simp; omega)) _) | (refine range_drewN ?_ _) | (refine range_far ?_ (by first | omega | (simp; done) | (simp; omega)) _) | assumption | (refine range_below ?_ (by assumption) (by first | omega | (simp; done) | (simp; omega)))))
    have HB2 := Lib.hid (show Below w.heap.size w w2 from by have := HB1.out; exact (by with_reducible repeat (first | exact Below.refl _ _ | apply kalloc | apply kept_drewN | (refine kset ?_ (by first | (simp; done) | (simp; omega)) _) | assumption | (refine bthru (by assumption) ?_))))
    clear hb
    have rb_0 := range_cell rb 0 rfl
    have rb_1 := range_cell rb 1 rfl
    cases b1
    · go_wp2_with fail
      rw [rounds_succ]
      go_wp2
      go_ret2
      exact ⟨rfl, HB2.out⟩
    · go_wp2
      go_ret2
      exact ⟨rfl, HB2.out⟩
  · go_wp2
    go_ret2
    exact ⟨rfl, HB1.out⟩
set_option maxHeartbeats 2000000 in
theorem keep_any (fn : Nat) (cap : Array Value) (k0 i0 k1 i1 : Int) (b0 b1 : Bool) (w : World) (he : ∀ (args : Array Value) (w : World), (callFunc fn args).run Try.prog w = .ok (.enter fn args) w) (h0 : Hear.Says w fn cap k0 i0 b0) (h1 : Hear.Says w fn cap k1 i1 b1) :
    Calls Try.prog 19 #[.agg #[.int .i64 k0, .int .i64 i0, .int .i64 k1, .int .i64 i1], .func (.func fn) #[] cap] w fun e w' => e = .returned (.agg #[.int .i64 (if b0 = true then k0 else 0), .int .i64 (if b0 = true then i0 else 0), .int .i64 (if b1 = true then k1 else 0), .int .i64 (if b1 = true then i1 else 0)]) ∧ Below w.heap.size w w' := by
  have C0 := Lib.hid h0
  have C1 := Lib.hid h1
  clear h0 h1
  go_enter Try.func19, Try.ntmps19
  go_wp2_with fail
  refine wp_loop_rounds 3 ?_
  rw [rounds_succ]
  go_wp2_with fail
  refine (C0.out _ (by with_reducible repeat (first | exact Below.refl _ _ | apply kalloc | apply kept_drewN | (refine kset ?_ (by first | (simp; done) | (simp; omega)) _) | assumption | (refine bthru (by assumption) ?_)))).mono ?_; rintro e w1 ⟨rfl, hb⟩; have hz := hb.size; try simp only [World.size_alloc, World.heap_drewN, World.size_setCell] at hz
  have z_ra : (w.heap.size + 1 + 1 + 1) < w1.heap.size := (by omega); have ra : w1.rangeAt (w.heap.size + 1 + 1 + 1) 0 [.int .i64 k0, .int .i64 i0] := (by with_reducible repeat (first | exact range_new_at _ _ _ (by first | omega | (simp; done) | (simp; omega)) | apply range_put | (with_unfolding_all rfl) | (refine range_alloc ?_ (by first | omega | (simp; done) | (simp; omega)) _) | (refine range_drewN ?_ _) | (refine range_far ?_ (by first | omega | (simp; done) | (simp; omega)) _) | assumption | (refine range_below ?_ (by assumption) (by first | omega | (simp; done) | (simp; omega)))))
  have z_rr : (w.heap.size + 1) < w1.heap.size := (by omega); have rr : w1.rangeAt (w.heap.size + 1) 0 [.int .i64 0, .int .i64 0, .int .i64 0, .int .i64 0] := (by with_reducible repeat (first | exact range_new_at _ _ _ (by first | omega | (simp; done) | (simp; omega)) | apply range_put | (with_unfolding_all rfl) | (refine range_alloc ?_ (by first | omega | (simp; done) | (simp; omega)) _) | (refine range_drewN ?_ _) | (refine range_far ?_ (by first | omega | (simp; done) | (simp; omega)) _) | assumption | (refine range_below ?_ (by assumption) (by first | omega | (simp; done) | (simp; omega)))))
  have z_rk : (w.heap.size + 1 + 1) < w1.heap.size := (by omega); have rk : w1.rangeAt (w.heap.size + 1 + 1) 0 [.int .i64 0, .int .i64 0, .int .i64 0, .int .i64 0] := (by with_reducible repeat (first | exact range_new_at _ _ _ (by first | omega | (simp; done) | (simp; omega)) | apply range_put | (with_unfolding_all rfl) | (refine range_alloc ?_ (by first | omega | (simp; done) | (simp; omega)) _) | (refine range_drewN ?_ _) | (refine range_far ?_ (by first | omega | (simp; done) | (simp; omega)) _) | assumption | (refine range_below ?_ (by assumption) (by first | omega | (simp; done) | (simp; omega)))))
  have HB1 := Lib.hid (show Below w.heap.size w w1 from (by with_reducible repeat (first | exact Below.refl _ _ | apply kalloc | apply kept_drewN | (refine kset ?_ (by first | (simp; done) | (simp; omega)) _) | assumption | (refine bthru (by assumption) ?_))))
  have hf := (bcall hb).2.1
  have g0 := hf (w.heap.size + 1 + 1) 0 (by first | (simp; done) | (simp; omega) | omega)
  have g1 := hf (w.heap.size + 1 + 1) 1 (by first | (simp; done) | (simp; omega) | omega)
  have g2 := hf (w.heap.size + 1 + 1) 2 (by first | (simp; done) | (simp; omega) | omega)
  have g3 := hf (w.heap.size + 1 + 1) 3 (by first | (simp; done) | (simp; omega) | omega)
  have p0 := hf (w.heap.size + 1) 0 (by first | (simp; done) | (simp; omega) | omega)
  have p1 := hf (w.heap.size + 1) 1 (by first | (simp; done) | (simp; omega) | omega)
  have p2 := hf (w.heap.size + 1) 2 (by first | (simp; done) | (simp; omega) | omega)
  have p3 := hf (w.heap.size + 1) 3 (by first | (simp; done) | (simp; omega) | omega)
  simp [go_sem] at g0 g1 g2 g3 p0 p1 p2 p3
  have y1 : w.heap.size + 1 < w1.heap.size := by omega
  have y2 : w.heap.size + 1 + 1 < w1.heap.size := by omega
  clear hb hf
  have ra_0 := range_cell ra 0 rfl
  have ra_1 := range_cell ra 1 rfl
  have rk_0 := range_cell rk 0 rfl; have rk_1 := range_cell rk 1 rfl; have rk_2 := range_cell rk 2 rfl; have rk_3 := range_cell rk 3 rfl
  cases b0
  · go_wp2_with fail
    rw [rounds_succ]
    go_wp2_with fail
    have hB1 := HB1.out
    refine (C1.out _ (by with_reducible repeat (first | exact Below.refl _ _ | apply kalloc | apply kept_drewN | (refine kset ?_ (by first | (simp; done) | (simp; omega)) _) | assumption | (refine bthru (by assumption) ?_)))).mono ?_; rintro e w2 ⟨rfl, hb⟩; have hz := hb.size; try simp only [World.size_alloc, World.heap_drewN, World.size_setCell] at hz
    have z_rb : (w1.heap.size) < w2.heap.size := (by omega); have rb : w2.rangeAt (w1.heap.size) 0 [.int .i64 k1, .int .i64 i1] := (by with_reducible repeat (first | exact range_new_at _ _ _ (by first | omega | (simp; done) | (simp; omega)) | apply range_put | (with_unfolding_all rfl) | (refine range_alloc ?_ (by first | omega | (simp; done) | (simp; omega)) _) | (refine range_drewN ?_ _) | (refine range_far ?_ (by first | omega | (simp; done) | (simp; omega)) _) | assumption | (refine range_below ?_ (by assumption) (by first | omega | (simp; done) | (simp; omega)))))
    have z_rr : (w.heap.size + 1) < w2.heap.size := (by omega); have rr : w2.rangeAt (w.heap.size + 1) 0 [.int .i64 0, .int .i64 0, .int .i64 0, .int .i64 0] := (by with_reducible repeat (first | exact range_new_at _ _ _ (by first | omega | (simp; done) | (simp; omega)) | apply range_put | (with_unfolding_all rfl) | (refine range_alloc ?_ (by first | omega | (simp; done) | (simp; omega)) _) | (refine range_drewN ?_ _) | (refine range_far ?_ (by first | omega | (simp; done) | (simp; omega)) _) | assumption | (refine range_below ?_ (by assumption) (by first | omega | (simp; done) | (simp; omega)))))
    have z_rk : (w.heap.size + 1 + 1) < w2.heap.size := (by omega); have rk : w2.rangeAt (w.heap.size + 1 + 1) 0 [.int .i64 0, .int .i64 0, .int .i64 0, .int .i64 0] := (by with_reducible repeat (first | exact range_new_at _ _ _ (by first | omega | (simp; done) | (simp; omega)) | apply range_put | (with_unfolding_all rfl) | (refine range_alloc ?_ (by first | omega | (simp; done) | (simp; omega)) _) | (refine range_drewN ?_ _) | (refine range_far ?_ (by first | omega | (simp; done) | (simp; omega)) _) | assumption | (refine range_below ?_ (by assumption) (by first | omega | (simp; done) | (simp; omega)))))
    have HB2 := Lib.hid (show Below w.heap.size w w2 from (by with_reducible repeat (first | exact Below.refl _ _ | apply kalloc | apply kept_drewN | (refine kset ?_ (by first | (simp; done) | (simp; omega)) _) | assumption | (refine bthru (by assumption) ?_))))
    have hf := (bcall hb).2.1
    have f0 := hf (w.heap.size + 1 + 1) 0 (by first | (simp; done) | (simp; omega) | omega)
    have f1 := hf (w.heap.size + 1 + 1) 1 (by first | (simp; done) | (simp; omega) | omega)
    have f2 := hf (w.heap.size + 1 + 1) 2 (by first | (simp; done) | (simp; omega) | omega)
    have f3 := hf (w.heap.size + 1 + 1) 3 (by first | (simp; done) | (simp; omega) | omega)
    have q0 := hf (w.heap.size + 1) 0 (by first | (simp; done) | (simp; omega) | omega)
    have q1 := hf (w.heap.size + 1) 1 (by first | (simp; done) | (simp; omega) | omega)
    have q2 := hf (w.heap.size + 1) 2 (by first | (simp; done) | (simp; omega) | omega)
    have q3 := hf (w.heap.size + 1) 3 (by first | (simp; done) | (simp; omega) | omega)
    simp [go_sem, y1, y2, g0, g1, g2, g3, p0, p1, p2, p3] at f0 f1 f2 f3 q0 q1 q2 q3
    clear hb hf hB1
    have rb_0 := range_cell rb 0 rfl
    have rb_1 := range_cell rb 1 rfl
    have rk_0 := range_cell rk 0 rfl; have rk_1 := range_cell rk 1 rfl; have rk_2 := range_cell rk 2 rfl; have rk_3 := range_cell rk 3 rfl
    have rr_0 := range_cell rr 0 rfl; have rr_1 := range_cell rr 1 rfl; have rr_2 := range_cell rr 2 rfl; have rr_3 := range_cell rr 3 rfl
    cases b1
    · go_wp2_with fail
      rw [rounds_succ]
      go_wp2
      have hB2 := HB2.out
      refine bodyPost_ret (ret_cell Try.results19 (w.heap.size + 1) [.int .i64 0, .int .i64 0, .int .i64 0, .int .i64 0] _ rfl (by with_reducible repeat (first | exact range_new_at _ _ _ (by first | omega | (simp; done) | (simp; omega)) | apply range_put | (with_unfolding_all rfl) | (refine range_alloc ?_ (by first | omega | (simp; done) | (simp; omega)) _) | (refine range_drewN ?_ _) | (refine range_far ?_ (by first | omega | (simp; done) | (simp; omega)) _) | assumption | (refine range_below ?_ (by assumption) (by first | omega | (simp; done) | (simp; omega))))) Try.underlying24 rfl (by kernel_rfl)) rfl ⟨rfl, ?_⟩; exact (by with_reducible repeat (first | exact Below.refl _ _ | apply kalloc | apply kept_drewN | (refine kset ?_ (by first | (simp; done) | (simp; omega)) _) | assumption | (refine bthru (by assumption) ?_)))
    · go_wp2_with fail
      rw [rounds_succ]
      go_wp2
      have hB2 := HB2.out
      have rr2 := range_far (range_far rr (p := ⟨w.heap.size + 1 + 1, 2, none⟩) (by simp) (.int .i64 k1)) (p := ⟨w.heap.size + 1 + 1, 3, none⟩) (by simp) (.int .i64 i1)
      refine bodyPost_ret (ret_cell Try.results19 (w.heap.size + 1) [.int .i64 0, .int .i64 0, .int .i64 k1, .int .i64 i1] _ rfl (by with_reducible repeat (first | exact range_new_at _ _ _ (by first | omega | (simp; done) | (simp; omega)) | apply range_put | (with_unfolding_all rfl) | (refine range_alloc ?_ (by first | omega | (simp; done) | (simp; omega)) _) | (refine range_drewN ?_ _) | (refine range_far ?_ (by first | omega | (simp; done) | (simp; omega)) _) | assumption | (refine range_below ?_ (by assumption) (by first | omega | (simp; done) | (simp; omega))))) Try.underlying24 rfl (by kernel_rfl)) rfl ⟨rfl, ?_⟩; exact (by with_reducible repeat (first | exact Below.refl _ _ | apply kalloc | apply kept_drewN | (refine kset ?_ (by first | (simp; done) | (simp; omega)) _) | assumption | (refine bthru (by assumption) ?_)))
  · go_wp2_with fail
    rw [rounds_succ]
    go_wp2_with fail
    have hB1 := HB1.out
    refine (C1.out _ (by with_reducible repeat (first | exact Below.refl _ _ | apply kalloc | apply kept_drewN | (refine kset ?_ (by first | (simp; done) | (simp; omega)) _) | assumption | (refine bthru (by assumption) ?_)))).mono ?_; rintro e w2 ⟨rfl, hb⟩; have hz := hb.size; try simp only [World.size_alloc, World.heap_drewN, World.size_setCell] at hz
    have z_rb : (w1.heap.size) < w2.heap.size := (by omega); have rb : w2.rangeAt (w1.heap.size) 0 [.int .i64 k1, .int .i64 i1] := (by with_reducible repeat (first | exact range_new_at _ _ _ (by first | omega | (simp; done) | (simp; omega)) | apply range_put | (with_unfolding_all rfl) | (refine range_alloc ?_ (by first | omega | (simp; done) | (simp; omega)) _) | (refine range_drewN ?_ _) | (refine range_far ?_ (by first | omega | (simp; done) | (simp; omega)) _) | assumption | (refine range_below ?_ (by assumption) (by first | omega | (simp; done) | (simp; omega)))))
    have z_rr : (w.heap.size + 1) < w2.heap.size := (by omega); have rr : w2.rangeAt (w.heap.size + 1) 0 [.int .i64 0, .int .i64 0, .int .i64 0, .int .i64 0] := (by with_reducible repeat (first | exact range_new_at _ _ _ (by first | omega | (simp; done) | (simp; omega)) | apply range_put | (with_unfolding_all rfl) | (refine range_alloc ?_ (by first | omega | (simp; done) | (simp; omega)) _) | (refine range_drewN ?_ _) | (refine range_far ?_ (by first | omega | (simp; done) | (simp; omega)) _) | assumption | (refine range_below ?_ (by assumption) (by first | omega | (simp; done) | (simp; omega)))))
    have z_rk : (w.heap.size + 1 + 1) < w2.heap.size := (by omega); have rk : w2.rangeAt (w.heap.size + 1 + 1) 0 [.int .i64 k0, .int .i64 i0, .int .i64 0, .int .i64 0] := (by with_reducible repeat (first | exact range_new_at _ _ _ (by first | omega | (simp; done) | (simp; omega)) | apply range_put | (with_unfolding_all rfl) | (refine range_alloc ?_ (by first | omega | (simp; done) | (simp; omega)) _) | (refine range_drewN ?_ _) | (refine range_far ?_ (by first | omega | (simp; done) | (simp; omega)) _) | assumption | (refine range_below ?_ (by assumption) (by first | omega | (simp; done) | (simp; omega)))))
    have HB2 := Lib.hid (show Below w.heap.size w w2 from (by with_reducible repeat (first | exact Below.refl _ _ | apply kalloc | apply kept_drewN | (refine kset ?_ (by first | (simp; done) | (simp; omega)) _) | assumption | (refine bthru (by assumption) ?_))))
    have hf := (bcall hb).2.1
    have f0 := hf (w.heap.size + 1 + 1) 0 (by first | (simp; done) | (simp; omega) | omega)
    have f1 := hf (w.heap.size + 1 + 1) 1 (by first | (simp; done) | (simp; omega) | omega)
    have f2 := hf (w.heap.size + 1 + 1) 2 (by first | (simp; done) | (simp; omega) | omega)
    have f3 := hf (w.heap.size + 1 + 1) 3 (by first | (simp; done) | (simp; omega) | omega)
    have q0 := hf (w.heap.size + 1) 0 (by first | (simp; done) | (simp; omega) | omega)
    have q1 := hf (w.heap.size + 1) 1 (by first | (simp; done) | (simp; omega) | omega)
    have q2 := hf (w.heap.size + 1) 2 (by first | (simp; done) | (simp; omega) | omega)
    have q3 := hf (w.heap.size + 1) 3 (by first | (simp; done) | (simp; omega) | omega)
    simp [go_sem, y1, y2, g0, g1, g2, g3, p0, p1, p2, p3] at f0 f1 f2 f3 q0 q1 q2 q3
    clear hb hf hB1
    have rb_0 := range_cell rb 0 rfl
    have rb_1 := range_cell rb 1 rfl
    have rk_0 := range_cell rk 0 rfl; have rk_1 := range_cell rk 1 rfl; have rk_2 := range_cell rk 2 rfl; have rk_3 := range_cell rk 3 rfl
    have rr_0 := range_cell rr 0 rfl; have rr_1 := range_cell rr 1 rfl; have rr_2 := range_cell rr 2 rfl; have rr_3 := range_cell rr 3 rfl
    cases b1
    · go_wp2_with fail
      rw [rounds_succ]
      go_wp2
      have hB2 := HB2.out
      refine bodyPost_ret (ret_cell Try.results19 (w.heap.size + 1) [.int .i64 k0, .int .i64 i0, .int .i64 0, .int .i64 0] _ rfl (by with_reducible repeat (first | exact range_new_at _ _ _ (by first | omega | (simp; done) | (simp; omega)) | apply range_put | (with_unfolding_all rfl) | (refine range_alloc ?_ (by first | omega | (simp; done) | (simp; omega)) _) | (refine range_drewN ?_ _) | (refine range_far ?_ (by first | omega | (simp; done) | (simp; omega)) _) | assumption | (refine range_below ?_ (by assumption) (by first | omega | (simp; done) | (simp; omega))))) Try.underlying24 rfl (by kernel_rfl)) rfl ⟨rfl, ?_⟩; exact (by with_reducible repeat (first | exact Below.refl _ _ | apply kalloc | apply kept_drewN | (refine kset ?_ (by first | (simp; done) | (simp; omega)) _) | assumption | (refine bthru (by assumption) ?_)))
    · go_wp2_with fail
      rw [rounds_succ]
      go_wp2
      have hB2 := HB2.out
      have rr2 := range_far (range_far rr (p := ⟨w.heap.size + 1 + 1, 2, none⟩) (by simp) (.int .i64 k1)) (p := ⟨w.heap.size + 1 + 1, 3, none⟩) (by simp) (.int .i64 i1)
      refine bodyPost_ret (ret_cell Try.results19 (w.heap.size + 1) [.int .i64 k0, .int .i64 i0, .int .i64 k1, .int .i64 i1] _ rfl (by with_reducible repeat (first | exact range_new_at _ _ _ (by first | omega | (simp; done) | (simp; omega)) | apply range_put | (with_unfolding_all rfl) | (refine range_alloc ?_ (by first | omega | (simp; done) | (simp; omega)) _) | (refine range_drewN ?_ _) | (refine range_far ?_ (by first | omega | (simp; done) | (simp; omega)) _) | assumption | (refine range_below ?_ (by assumption) (by first | omega | (simp; done) | (simp; omega))))) Try.underlying24 rfl (by kernel_rfl)) rfl ⟨rfl, ?_⟩; exact (by with_reducible repeat (first | exact Below.refl _ _ | apply kalloc | apply kept_drewN | (refine kset ?_ (by first | (simp; done) | (simp; omega)) _) | assumption | (refine bthru (by assumption) ?_)))
end Go.Proofs.Ytdklobpembmbbaa
