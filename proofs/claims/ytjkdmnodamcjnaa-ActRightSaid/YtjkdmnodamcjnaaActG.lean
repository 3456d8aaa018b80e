
import Derived.Test.YtjkdmnodamcjnaaRows
import Derived.Test.YtjkdmnodamcjnaaActD
import Derived.Test.YtjkdmnodamcjnaaActF
import Derived.LoopTactic
namespace Go.Proofs.Ytjkdmnodamcjnaa
set_option linter.unusedVariables false
open Go.ChangeShapes Go.WideShapes Go.RowKit

/-- The node's cells and the result's, and all that was there. -/
def Act.Kept (w : World) (y : Act.Nd) (wr : World) : Prop :=
  w.heap.size + 1 < wr.heap.size ∧ Below w.heap.size w wr ∧ wr.rangeAt w.heap.size 0 [.int .i64 y.i, .int .i64 y.m, .int .i64 y.c, .int .i64 y.p] ∧ Free wr w.heap.size ∧ wr.rangeAt (w.heap.size + 1) 0 [.int .i64 0, .int .i64 0, .int .i64 0, .int .i64 0] ∧ Free wr (w.heap.size + 1)
def Act.Kept_rel (w : World) (n : Int) (x : Act.Nd) (T : Nat) (k : Value) (wr : World) : Prop :=
  ∃ K : Nat, K ≤ T ∧ k = .int .i64 K ∧ Act.Kept w (Act.ticks n x K) wr
def Act.KeptN (w : World) (y : Act.Nd) (wr : World) : Prop :=
  w.heap.size + 1 + 1 < wr.heap.size ∧ Below w.heap.size w wr ∧ wr.rangeAt w.heap.size 0 [.int .i64 y.i, .int .i64 y.m, .int .i64 y.c, .int .i64 y.p] ∧ Free wr w.heap.size ∧ wr.rangeAt (w.heap.size + 1) 0 [.int .i64 0, .int .i64 0, .int .i64 0, .int .i64 0] ∧ Free wr (w.heap.size + 1) ∧ wr.rangeAt (w.heap.size + 1 + 1) 0 [.int .i64 0, .int .i64 0, .int .i64 0, .int .i64 0]
def Act.KeptN_rel (w : World) (n : Int) (x : Act.Nd) (T : Nat) (k : Value) (wr : World) : Prop :=
  ∃ K : Nat, K ≤ T ∧ k = .int .i64 K ∧ Act.KeptN w (Act.ticks n x K) wr
theorem actTick_any (n : Int) (y : Act.Nd) (hg : Act.good n y.i y.m y.c y.p = true) (w : World) :
    Calls Try.prog 9 #[.int .i64 n, .agg #[.int .i64 y.i, .int .i64 y.m, .int .i64 y.c, .int .i64 y.p], .agg #[.int .i64 0, .int .i64 0, .int .i64 0, .int .i64 0]] w fun e w' => e = .returned (.tuple #[Act.val (Act.tick n y), .int .i64 0]) ∧ Below w.heap.size w w' := by
  have h := actStep_any n y.i y.m y.c y.p 0 0 0 0 (Act.heard_none n) w
  rw [show Act.next n y.i y.m y.c y.p 0 0 0 0 = Act.tick n y by unfold Act.next; rw [if_pos hg]; rfl, show Act.err n y.i y.m y.c y.p = 0 by unfold Act.err; rw [if_pos hg]] at h
  exact h
set_option maxHeartbeats 1000000 in
theorem actQuiet_no (n i m c p t : Int) (hg : Act.good n i m c p = false) (w : World) :
    Calls Try.prog 11 #[.int .i64 n, .agg #[.int .i64 i, .int .i64 m, .int .i64 c, .int .i64 p], .int .i64 t] w fun e w' => e = .returned (.tuple #[.agg #[.int .i64 0, .int .i64 0, .int .i64 0, .int .i64 0], .int .i64 1]) ∧ Below w.heap.size w w' := by
  have CG := Lib.hid (fun w => actStep_any n i m c p 0 0 0 0 (Act.heard_none n) w)
  rw [show Act.next n i m c p 0 0 0 0 = Act.none by unfold Act.next; rw [hg]; rfl, show Act.err n i m c p = 1 by unfold Act.err; rw [hg]; rfl, show Act.val Act.none = .agg #[.int .i64 0, .int .i64 0, .int .i64 0, .int .i64 0] from rfl] at CG
  clear hg
  go_enter Try.func11, Try.ntmps11
  go_wp2_with fail
  refine (CG.out _).mono ?_; rintro e wa ⟨rfl, hb⟩; have hz := hb.size; try simp only [World.size_alloc, World.heap_drewN, World.size_setCell] at hz
  have HB1 := Lib.hid (show Below w.heap.size w wa from (by with_reducible repeat (first | exact Below.refl _ _ | apply kalloc | apply kept_drewN | apply kept_drew1 | (refine kset ?_ (by first | (simp; done) | (simp; omega)) _) | assumption | (refine bthru (by assumption) ?_))))
  have z_rr : (w.heap.size + 1) < wa.heap.size := (by omega); have rr : wa.rangeAt (w.heap.size + 1) 0 [.int .i64 0, .int .i64 0, .int .i64 0, .int .i64 0] := (by with_reducible repeat (first | exact range_new_at _ _ _ (by first | omega | (simp; done) | (simp; omega)) | apply range_put | (with_unfolding_all rfl) | (refine range_alloc ?_ (by first | omega | (simp; done) | (simp; omega)) _) | (refine range_drewN ?_ _) | apply range_drew1 | (refine range_far ?_ (by first | omega | (simp; done) | (simp; omega)) _) | assumption | (refine range_below ?_ (by assumption) (by first | omega | (simp; done) | (simp; omega))) | apply range_far | (with_reducible omega) | (simp; omega))); have f_rr : Free wa (w.heap.size + 1) := (by with_reducible repeat (first | exact free_new_at _ _ _ (by first | omega | (simp; done) | (simp; omega)) | (refine free_set ?_ _ _) | (refine free_alloc ?_ (by first | omega | (simp; done) | (simp; omega)) _) | (refine free_drewN ?_ _) | apply free_drew1 | assumption | (refine free_below ?_ (by assumption) (by first | omega | (simp; done) | (simp; omega)))))
  clear hb
  have rr_0 := range_cell rr 0 rfl; have rr_1 := range_cell rr 1 rfl; have rr_2 := range_cell rr 2 rfl; have rr_3 := range_cell rr 3 rfl
  have rr_f0 := f_rr 0; have rr_f1 := f_rr 1; have rr_f2 := f_rr 2; have rr_f3 := f_rr 3
  have := HB1.out
  go_wp2
  refine bodyPost_ret (ret_cell_tmp Try.results11 (w.heap.size + 1) [.int .i64 0, .int .i64 0, .int .i64 0, .int .i64 0] _ rfl (by with_reducible repeat (first | exact range_new_at _ _ _ (by first | omega | (simp; done) | (simp; omega)) | apply range_put | (with_unfolding_all rfl) | (refine range_alloc ?_ (by first | omega | (simp; done) | (simp; omega)) _) | (refine range_drewN ?_ _) | apply range_drew1 | (refine range_far ?_ (by first | omega | (simp; done) | (simp; omega)) _) | assumption | (refine range_below ?_ (by assumption) (by first | omega | (simp; done) | (simp; omega))) | apply range_far | (with_reducible omega) | (simp; omega))) Try.underlying23 rfl (by kernel_rfl)) rfl ⟨rfl, ?_⟩; exact (by with_reducible repeat (first | exact Below.refl _ _ | apply kalloc | apply kept_drewN | apply kept_drew1 | (refine kset ?_ (by first | (simp; done) | (simp; omega)) _) | assumption | (refine bthru (by assumption) ?_)))
set_option maxHeartbeats 1000000 in
theorem actQuiet_out (n i m c p t : Int) (hg : Act.good n i m c p = true) (ht : ¬ (0 ≤ t ∧ t ≤ 1000)) (w : World) :
    Calls Try.prog 11 #[.int .i64 n, .agg #[.int .i64 i, .int .i64 m, .int .i64 c, .int .i64 p], .int .i64 t] w fun e w' => e = .returned (.tuple #[.agg #[.int .i64 0, .int .i64 0, .int .i64 0, .int .i64 0], .int .i64 2]) ∧ Below w.heap.size w w' := by
  have CG := Lib.hid (fun w => actTick_any n ⟨i, m, c, p⟩ hg w)
  generalize Act.tick n ⟨i, m, c, p⟩ = z at *
  obtain ⟨zi, zm, zc, zp⟩ := z
  rw [show Act.val ⟨zi, zm, zc, zp⟩ = .agg #[.int .i64 zi, .int .i64 zm, .int .i64 zc, .int .i64 zp] from rfl] at CG
  clear hg
  by_cases h0 : t < 0
  all_goals
    go_enter Try.func11, Try.ntmps11
    go_wp2_with fail
    refine (CG.out _).mono ?_; rintro e wa ⟨rfl, hb⟩; have hz := hb.size; try simp only [World.size_alloc, World.heap_drewN, World.size_setCell] at hz
    have HB1 := Lib.hid (show Below w.heap.size w wa from (by with_reducible repeat (first | exact Below.refl _ _ | apply kalloc | apply kept_drewN | apply kept_drew1 | (refine kset ?_ (by first | (simp; done) | (simp; omega)) _) | assumption | (refine bthru (by assumption) ?_))))
    have z_rr : (w.heap.size + 1) < wa.heap.size := (by omega); have rr : wa.rangeAt (w.heap.size + 1) 0 [.int .i64 0, .int .i64 0, .int .i64 0, .int .i64 0] := (by with_reducible repeat (first | exact range_new_at _ _ _ (by first | omega | (simp; done) | (simp; omega)) | apply range_put | (with_unfolding_all rfl) | (refine range_alloc ?_ (by first | omega | (simp; done) | (simp; omega)) _) | (refine range_drewN ?_ _) | apply range_drew1 | (refine range_far ?_ (by first | omega | (simp; done) | (simp; omega)) _) | assumption | (refine range_below ?_ (by assumption) (by first | omega | (simp; done) | (simp; omega))) | apply range_far | (with_reducible omega) | (simp; omega))); have f_rr : Free wa (w.heap.size + 1) := (by with_reducible repeat (first | exact free_new_at _ _ _ (by first | omega | (simp; done) | (simp; omega)) | (refine free_set ?_ _ _) | (refine free_alloc ?_ (by first | omega | (simp; done) | (simp; omega)) _) | (refine free_drewN ?_ _) | apply free_drew1 | assumption | (refine free_below ?_ (by assumption) (by first | omega | (simp; done) | (simp; omega)))))
    clear hb
    have rr_0 := range_cell rr 0 rfl; have rr_1 := range_cell rr 1 rfl; have rr_2 := range_cell rr 2 rfl; have rr_3 := range_cell rr 3 rfl
    have rr_f0 := f_rr 0; have rr_f1 := f_rr 1; have rr_f2 := f_rr 2; have rr_f3 := f_rr 3
    have := HB1.out
    go_wp2
    refine bodyPost_ret (ret_cell_tmp Try.results11 (w.heap.size + 1) [.int .i64 0, .int .i64 0, .int .i64 0, .int .i64 0] _ rfl (by with_reducible repeat (first | exact range_new_at _ _ _ (by first | omega | (simp; done) | (simp; omega)) | apply range_put | (with_unfolding_all rfl) | (refine range_alloc ?_ (by first | omega | (simp; done) | (simp; omega)) _) | (refine range_drewN ?_ _) | apply range_drew1 | (refine range_far ?_ (by first | omega | (simp; done) | (simp; omega)) _) | assumption | (refine range_below ?_ (by assumption) (by first | omega | (simp; done) | (simp; omega))) | apply range_far | (with_reducible omega) | (simp; omega))) Try.underlying23 rfl (by kernel_rfl)) rfl ⟨rfl, ?_⟩; exact (by with_reducible repeat (first | exact Below.refl _ _ | apply kalloc | apply kept_drewN | apply kept_drew1 | (refine kset ?_ (by first | (simp; done) | (simp; omega)) _) | assumption | (refine bthru (by assumption) ?_)))
set_option maxHeartbeats 1000000 in
theorem actQuiet_yes (n i m c p : Int) (T : Nat) (hg : Act.good n i m c p = true) (ht : T ≤ 1000) (w : World) :
    Calls Try.prog 11 #[.int .i64 n, .agg #[.int .i64 i, .int .i64 m, .int .i64 c, .int .i64 p], .int .i64 T] w fun e w' => e = .returned (.tuple #[Act.val (Act.ticks n ⟨i, m, c, p⟩ T), .int .i64 0]) ∧ Below w.heap.size w w' := by
  have CG := Lib.hid (fun w => actTick_any n ⟨i, m, c, p⟩ hg w)
  generalize Act.tick n ⟨i, m, c, p⟩ = z at *
  obtain ⟨zi, zm, zc, zp⟩ := z
  rw [show Act.val ⟨zi, zm, zc, zp⟩ = .agg #[.int .i64 zi, .int .i64 zm, .int .i64 zc, .int .i64 zp] from rfl] at CG
  have HG := Lib.hid hg
  clear hg
  go_enter Try.func11, Try.ntmps11
  go_wp2_with fail
  refine (CG.out _).mono ?_; rintro e wa ⟨rfl, hb⟩; have hz := hb.size; try simp only [World.size_alloc, World.heap_drewN, World.size_setCell] at hz
  have HB1 := Lib.hid (show Below w.heap.size w wa from (by with_reducible repeat (first | exact Below.refl _ _ | apply kalloc | apply kept_drewN | apply kept_drew1 | (refine kset ?_ (by first | (simp; done) | (simp; omega)) _) | assumption | (refine bthru (by assumption) ?_))))
  have z_rx : (w.heap.size) < wa.heap.size := (by omega); have rx : wa.rangeAt (w.heap.size) 0 [.int .i64 i, .int .i64 m, .int .i64 c, .int .i64 p] := (by with_reducible repeat (first | exact range_new_at _ _ _ (by first | omega | (simp; done) | (simp; omega)) | apply range_put | (with_unfolding_all rfl) | (refine range_alloc ?_ (by first | omega | (simp; done) | (simp; omega)) _) | (refine range_drewN ?_ _) | apply range_drew1 | (refine range_far ?_ (by first | omega | (simp; done) | (simp; omega)) _) | assumption | (refine range_below ?_ (by assumption) (by first | omega | (simp; done) | (simp; omega))) | apply range_far | (with_reducible omega) | (simp; omega))); have f_rx : Free wa (w.heap.size) := (by with_reducible repeat (first | exact free_new_at _ _ _ (by first | omega | (simp; done) | (simp; omega)) | (refine free_set ?_ _ _) | (refine free_alloc ?_ (by first | omega | (simp; done) | (simp; omega)) _) | (refine free_drewN ?_ _) | apply free_drew1 | assumption | (refine free_below ?_ (by assumption) (by first | omega | (simp; done) | (simp; omega)))))
  have z_rr : (w.heap.size + 1) < wa.heap.size := (by omega); have rr : wa.rangeAt (w.heap.size + 1) 0 [.int .i64 0, .int .i64 0, .int .i64 0, .int .i64 0] := (by with_reducible repeat (first | exact range_new_at _ _ _ (by first | omega | (simp; done) | (simp; omega)) | apply range_put | (with_unfolding_all rfl) | (refine range_alloc ?_ (by first | omega | (simp; done) | (simp; omega)) _) | (refine range_drewN ?_ _) | apply range_drew1 | (refine range_far ?_ (by first | omega | (simp; done) | (simp; omega)) _) | assumption | (refine range_below ?_ (by assumption) (by first | omega | (simp; done) | (simp; omega))) | apply range_far | (with_reducible omega) | (simp; omega))); have f_rr : Free wa (w.heap.size + 1) := (by with_reducible repeat (first | exact free_new_at _ _ _ (by first | omega | (simp; done) | (simp; omega)) | (refine free_set ?_ _ _) | (refine free_alloc ?_ (by first | omega | (simp; done) | (simp; omega)) _) | (refine free_drewN ?_ _) | apply free_drew1 | assumption | (refine free_below ?_ (by assumption) (by first | omega | (simp; done) | (simp; omega)))))
  have z_rn : (w.heap.size + 1 + 1) < wa.heap.size := (by omega); have rn : wa.rangeAt (w.heap.size + 1 + 1) 0 [.int .i64 0, .int .i64 0, .int .i64 0, .int .i64 0] := (by with_reducible repeat (first | exact range_new_at _ _ _ (by first | omega | (simp; done) | (simp; omega)) | apply range_put | (with_unfolding_all rfl) | (refine range_alloc ?_ (by first | omega | (simp; done) | (simp; omega)) _) | (refine range_drewN ?_ _) | apply range_drew1 | (refine range_far ?_ (by first | omega | (simp; done) | (simp; omega)) _) | assumption | (refine range_below ?_ (by assumption) (by first | omega | (simp; done) | (simp; omega))) | apply range_far | (with_reducible omega) | (simp; omega)))
  clear hb
  go_wp2_with fail
  have HK : Hid (Act.KeptN w ⟨i, m, c, p⟩ (wa.alloc (.cells #[.int .i64 zi, .int .i64 zm, .int .i64 zc, .int .i64 zp] 23))) := by
    have := HB1.out
    exact ⟨(by simp; omega), (by with_reducible repeat (first | exact Below.refl _ _ | apply kalloc | apply kept_drewN | apply kept_drew1 | (refine kset ?_ (by first | (simp; done) | (simp; omega)) _) | assumption | (refine bthru (by assumption) ?_))), (by with_reducible repeat (first | exact range_new_at _ _ _ (by first | omega | (simp; done) | (simp; omega)) | apply range_put | (with_unfolding_all rfl) | (refine range_alloc ?_ (by first | omega | (simp; done) | (simp; omega)) _) | (refine range_drewN ?_ _) | apply range_drew1 | (refine range_far ?_ (by first | omega | (simp; done) | (simp; omega)) _) | assumption | (refine range_below ?_ (by assumption) (by first | omega | (simp; done) | (simp; omega))) | apply range_far | (with_reducible omega) | (simp; omega))), (by with_reducible repeat (first | exact free_new_at _ _ _ (by first | omega | (simp; done) | (simp; omega)) | (refine free_set ?_ _ _) | (refine free_alloc ?_ (by first | omega | (simp; done) | (simp; omega)) _) | (refine free_drewN ?_ _) | apply free_drew1 | assumption | (refine free_below ?_ (by assumption) (by first | omega | (simp; done) | (simp; omega))))), (by with_reducible repeat (first | exact range_new_at _ _ _ (by first | omega | (simp; done) | (simp; omega)) | apply range_put | (with_unfolding_all rfl) | (refine range_alloc ?_ (by first | omega | (simp; done) | (simp; omega)) _) | (refine range_drewN ?_ _) | apply range_drew1 | (refine range_far ?_ (by first | omega | (simp; done) | (simp; omega)) _) | assumption | (refine range_below ?_ (by assumption) (by first | omega | (simp; done) | (simp; omega))) | apply range_far | (with_reducible omega) | (simp; omega))), (by with_reducible repeat (first | exact free_new_at _ _ _ (by first | omega | (simp; done) | (simp; omega)) | (refine free_set ?_ _ _) | (refine free_alloc ?_ (by first | omega | (simp; done) | (simp; omega)) _) | (refine free_drewN ?_ _) | apply free_drew1 | assumption | (refine free_below ?_ (by assumption) (by first | omega | (simp; done) | (simp; omega))))), (by with_reducible repeat (first | exact range_new_at _ _ _ (by first | omega | (simp; done) | (simp; omega)) | apply range_put | (with_unfolding_all rfl) | (refine range_alloc ?_ (by first | omega | (simp; done) | (simp; omega)) _) | (refine range_drewN ?_ _) | apply range_drew1 | (refine range_far ?_ (by first | omega | (simp; done) | (simp; omega)) _) | assumption | (refine range_below ?_ (by assumption) (by first | omega | (simp; done) | (simp; omega))) | apply range_far | (with_reducible omega) | (simp; omega)))⟩
  clear rx rr f_rx f_rr HB1 CG
  go_loopw [30] (Act.KeptN_rel w n ⟨i, m, c, p⟩ T) (fun k _ => T - (intOf k).toNat)
  case atStart => exact ⟨0, by omega, rfl, HK.out⟩
  case round =>
    obtain ⟨K, hKT, rfl, hk⟩ := hrel
    obtain ⟨zw, hbel, kx, f_kx, kr, f_kr, kn⟩ := hk
    have HB := Lib.hid hbel
    clear hbel
    have hg := (Act.ticks_good (x := ⟨i, m, c, p⟩) HG.out K).2
    have e1 : Act.ticks n ⟨i, m, c, p⟩ (K + 1) = Act.tick n (Act.ticks n ⟨i, m, c, p⟩ K) := rfl
    by_cases hlt : K < T
    · have CT := Lib.hid (fun w => actTick_any n (Act.ticks n ⟨i, m, c, p⟩ K) hg w)
      rw [← e1] at CT
      clear e1 hg
      generalize hzz : Act.ticks n ⟨i, m, c, p⟩ (K + 1) = z at *
      generalize Act.ticks n ⟨i, m, c, p⟩ K = y at *
      obtain ⟨yi, ym, yc, yp⟩ := y
      obtain ⟨xi, xm, xc, xp⟩ := z
      rw [show Act.val ⟨xi, xm, xc, xp⟩ = .agg #[.int .i64 xi, .int .i64 xm, .int .i64 xc, .int .i64 xp] from rfl] at CT
      dsimp only at kx CT
      have HZ := Lib.hid hzz
      clear hzz
      have kx_0 := range_cell kx 0 rfl; have kx_1 := range_cell kx 1 rfl; have kx_2 := range_cell kx 2 rfl; have kx_3 := range_cell kx 3 rfl
      have kx_f0 := f_kx 0; have kx_f1 := f_kx 1; have kx_f2 := f_kx 2; have kx_f3 := f_kx 3
      have kn_0 := range_cell kn 0 rfl; have kn_1 := range_cell kn 1 rfl; have kn_2 := range_cell kn 2 rfl; have kn_3 := range_cell kn 3 rfl
      go_wp2_with fail
      refine (CT.out _).mono ?_; rintro e w1 ⟨rfl, hb⟩; have hz := hb.size; try simp only [World.size_alloc, World.heap_drewN, World.size_setCell] at hz
      have HB1 := Lib.hid (show Below w.heap.size w w1 from by have := HB.out; exact (by with_reducible repeat (first | exact Below.refl _ _ | apply kalloc | apply kept_drewN | apply kept_drew1 | (refine kset ?_ (by first | (simp; done) | (simp; omega)) _) | assumption | (refine bthru (by assumption) ?_))))
      have z_kx : (w.heap.size) < w1.heap.size := (by omega); have kx : w1.rangeAt (w.heap.size) 0 [.int .i64 yi, .int .i64 ym, .int .i64 yc, .int .i64 yp] := (by with_reducible repeat (first | exact range_new_at _ _ _ (by first | omega | (simp; done) | (simp; omega)) | apply range_put | (with_unfolding_all rfl) | (refine range_alloc ?_ (by first | omega | (simp; done) | (simp; omega)) _) | (refine range_drewN ?_ _) | apply range_drew1 | (refine range_far ?_ (by first | omega | (simp; done) | (simp; omega)) _) | assumption | (refine range_below ?_ (by assumption) (by first | omega | (simp; done) | (simp; omega))) | apply range_far | (with_reducible omega) | (simp; omega))); have f_kx : Free w1 (w.heap.size) := (by with_reducible repeat (first | exact free_new_at _ _ _ (by first | omega | (simp; done) | (simp; omega)) | (refine free_set ?_ _ _) | (refine free_alloc ?_ (by first | omega | (simp; done) | (simp; omega)) _) | (refine free_drewN ?_ _) | apply free_drew1 | assumption | (refine free_below ?_ (by assumption) (by first | omega | (simp; done) | (simp; omega)))))
      have z_kr : (w.heap.size + 1) < w1.heap.size := (by omega); have kr : w1.rangeAt (w.heap.size + 1) 0 [.int .i64 0, .int .i64 0, .int .i64 0, .int .i64 0] := (by with_reducible repeat (first | exact range_new_at _ _ _ (by first | omega | (simp; done) | (simp; omega)) | apply range_put | (with_unfolding_all rfl) | (refine range_alloc ?_ (by first | omega | (simp; done) | (simp; omega)) _) | (refine range_drewN ?_ _) | apply range_drew1 | (refine range_far ?_ (by first | omega | (simp; done) | (simp; omega)) _) | assumption | (refine range_below ?_ (by assumption) (by first | omega | (simp; done) | (simp; omega))) | apply range_far | (with_reducible omega) | (simp; omega))); have f_kr : Free w1 (w.heap.size + 1) := (by with_reducible repeat (first | exact free_new_at _ _ _ (by first | omega | (simp; done) | (simp; omega)) | (refine free_set ?_ _ _) | (refine free_alloc ?_ (by first | omega | (simp; done) | (simp; omega)) _) | (refine free_drewN ?_ _) | apply free_drew1 | assumption | (refine free_below ?_ (by assumption) (by first | omega | (simp; done) | (simp; omega)))))
      have z_kn : (w.heap.size + 1 + 1) < w1.heap.size := (by omega); have kn : w1.rangeAt (w.heap.size + 1 + 1) 0 [.int .i64 0, .int .i64 0, .int .i64 0, .int .i64 0] := (by with_reducible repeat (first | exact range_new_at _ _ _ (by first | omega | (simp; done) | (simp; omega)) | apply range_put | (with_unfolding_all rfl) | (refine range_alloc ?_ (by first | omega | (simp; done) | (simp; omega)) _) | (refine range_drewN ?_ _) | apply range_drew1 | (refine range_far ?_ (by first | omega | (simp; done) | (simp; omega)) _) | assumption | (refine range_below ?_ (by assumption) (by first | omega | (simp; done) | (simp; omega))) | apply range_far | (with_reducible omega) | (simp; omega)))
      clear hb
      have kx_0 := range_cell kx 0 rfl; have kx_1 := range_cell kx 1 rfl; have kx_2 := range_cell kx 2 rfl; have kx_3 := range_cell kx 3 rfl
      have kx_f0 := f_kx 0; have kx_f1 := f_kx 1; have kx_f2 := f_kx 2; have kx_f3 := f_kx 3
      go_wp2
      go_roundw
      case rel =>
        refine ⟨K + 1, by omega, by go_num, ?_⟩
        rw [HZ.out]
        have := HB1.out
        exact ⟨(by simp; omega), (by with_reducible repeat (first | exact Below.refl _ _ | apply kalloc | apply kept_drewN | apply kept_drew1 | (refine kset ?_ (by first | (simp; done) | (simp; omega)) _) | assumption | (refine bthru (by assumption) ?_))), (by with_reducible repeat (first | exact range_new_at _ _ _ (by first | omega | (simp; done) | (simp; omega)) | apply range_put | (with_unfolding_all rfl) | (refine range_alloc ?_ (by first | omega | (simp; done) | (simp; omega)) _) | (refine range_drewN ?_ _) | apply range_drew1 | (refine range_far ?_ (by first | omega | (simp; done) | (simp; omega)) _) | assumption | (refine range_below ?_ (by assumption) (by first | omega | (simp; done) | (simp; omega))) | apply range_far | (with_reducible omega) | (simp; omega))), (by with_reducible repeat (first | exact free_new_at _ _ _ (by first | omega | (simp; done) | (simp; omega)) | (refine free_set ?_ _ _) | (refine free_alloc ?_ (by first | omega | (simp; done) | (simp; omega)) _) | (refine free_drewN ?_ _) | apply free_drew1 | assumption | (refine free_below ?_ (by assumption) (by first | omega | (simp; done) | (simp; omega))))), (by with_reducible repeat (first | exact range_new_at _ _ _ (by first | omega | (simp; done) | (simp; omega)) | apply range_put | (with_unfolding_all rfl) | (refine range_alloc ?_ (by first | omega | (simp; done) | (simp; omega)) _) | (refine range_drewN ?_ _) | apply range_drew1 | (refine range_far ?_ (by first | omega | (simp; done) | (simp; omega)) _) | assumption | (refine range_below ?_ (by assumption) (by first | omega | (simp; done) | (simp; omega))) | apply range_far | (with_reducible omega) | (simp; omega))), (by with_reducible repeat (first | exact free_new_at _ _ _ (by first | omega | (simp; done) | (simp; omega)) | (refine free_set ?_ _ _) | (refine free_alloc ?_ (by first | omega | (simp; done) | (simp; omega)) _) | (refine free_drewN ?_ _) | apply free_drew1 | assumption | (refine free_below ?_ (by assumption) (by first | omega | (simp; done) | (simp; omega))))), (by with_reducible repeat (first | exact range_new_at _ _ _ (by first | omega | (simp; done) | (simp; omega)) | apply range_put | (with_unfolding_all rfl) | (refine range_alloc ?_ (by first | omega | (simp; done) | (simp; omega)) _) | (refine range_drewN ?_ _) | apply range_drew1 | (refine range_far ?_ (by first | omega | (simp; done) | (simp; omega)) _) | assumption | (refine range_below ?_ (by assumption) (by first | omega | (simp; done) | (simp; omega))) | apply range_far | (with_reducible omega) | (simp; omega)))⟩
      case measure => simp [intOf]; omega
    · obtain rfl : K = T := by omega
      clear e1 hg
      have kx_0 := range_cell kx 0 rfl; have kx_1 := range_cell kx 1 rfl; have kx_2 := range_cell kx 2 rfl; have kx_3 := range_cell kx 3 rfl
      have kx_f0 := f_kx 0; have kx_f1 := f_kx 1; have kx_f2 := f_kx 2; have kx_f3 := f_kx 3
      have kr_0 := range_cell kr 0 rfl; have kr_1 := range_cell kr 1 rfl; have kr_2 := range_cell kr 2 rfl; have kr_3 := range_cell kr 3 rfl
      have kr_f0 := f_kr 0; have kr_f1 := f_kr 1; have kr_f2 := f_kr 2; have kr_f3 := f_kr 3
      have := HB.out
      go_wp2
      refine bodyPost_ret (ret_cell_tmp Try.results11 (w.heap.size + 1) [.int .i64 (Act.ticks n ⟨i, m, c, p⟩ K).i, .int .i64 (Act.ticks n ⟨i, m, c, p⟩ K).m, .int .i64 (Act.ticks n ⟨i, m, c, p⟩ K).c, .int .i64 (Act.ticks n ⟨i, m, c, p⟩ K).p] _ rfl (by with_reducible repeat (first | exact range_new_at _ _ _ (by first | omega | (simp; done) | (simp; omega)) | apply range_put | (with_unfolding_all rfl) | (refine range_alloc ?_ (by first | omega | (simp; done) | (simp; omega)) _) | (refine range_drewN ?_ _) | apply range_drew1 | (refine range_far ?_ (by first | omega | (simp; done) | (simp; omega)) _) | assumption | (refine range_below ?_ (by assumption) (by first | omega | (simp; done) | (simp; omega))) | apply range_far | (with_reducible omega) | (simp; omega))) Try.underlying23 rfl (by kernel_rfl)) rfl ⟨rfl, ?_⟩; exact (by with_reducible repeat (first | exact Below.refl _ _ | apply kalloc | apply kept_drewN | apply kept_drew1 | (refine kset ?_ (by first | (simp; done) | (simp; omega)) _) | assumption | (refine bthru (by assumption) ?_)))
theorem actQuiet_any (n i m c p t : Int) (w : World) :
    Calls Try.prog 11 #[.int .i64 n, .agg #[.int .i64 i, .int .i64 m, .int .i64 c, .int .i64 p], .int .i64 t] w fun e w' => e = .returned (.tuple #[Act.val (Act.quiet n i m c p t), .int .i64 (Act.quietErr n i m c p t)]) ∧ Below w.heap.size w w' := by
  by_cases hg : Act.good n i m c p = true
  · by_cases ht : 0 ≤ t ∧ t ≤ 1000
    · obtain ⟨T, rfl⟩ := Int.eq_ofNat_of_zero_le ht.1
      rw [show Act.quiet n i m c p T = Act.ticks n ⟨i, m, c, p⟩ T by unfold Act.quiet; rw [if_pos ⟨hg, ht⟩]; rfl, show Act.quietErr n i m c p T = 0 by unfold Act.quietErr; rw [if_pos hg, if_pos ht]]
      exact actQuiet_yes n i m c p T hg (by omega) w
    · rw [show Act.quiet n i m c p t = Act.none by unfold Act.quiet; rw [if_neg (fun h => ht h.2)], show Act.quietErr n i m c p t = 2 by unfold Act.quietErr; rw [if_pos hg, if_neg ht]]
      exact actQuiet_out n i m c p t hg ht w
  · rw [show Act.quiet n i m c p t = Act.none by unfold Act.quiet; rw [if_neg (fun h => hg h.1)], show Act.quietErr n i m c p t = 1 by unfold Act.quietErr; rw [if_neg hg]]
    exact actQuiet_no n i m c p t (Bool.eq_false_iff.2 hg) w
theorem refTick_any (n : Int) (y : Act.Nd) (hg : Act.good n y.i y.m y.c y.p = true) (w : World) :
    Calls Try.prog 10 #[.int .i64 n, .agg #[.int .i64 y.i, .int .i64 y.m, .int .i64 y.c, .int .i64 y.p], .agg #[.int .i64 0, .int .i64 0, .int .i64 0, .int .i64 0]] w fun e w' => e = .returned (.tuple #[Act.val (Act.tick n y), .int .i64 0]) ∧ Below w.heap.size w w' := by
  have h := refStep_any n y.i y.m y.c y.p 0 0 0 0 (Act.heard_none n) w
  rw [show Act.next n y.i y.m y.c y.p 0 0 0 0 = Act.tick n y by unfold Act.next; rw [if_pos hg]; rfl, show Act.err n y.i y.m y.c y.p = 0 by unfold Act.err; rw [if_pos hg]] at h
  exact h
set_option maxHeartbeats 1000000 in
theorem refQuiet_no (n i m c p t : Int) (hg : Act.good n i m c p = false) (w : World) :
    Calls Try.prog 12 #[.int .i64 n, .agg #[.int .i64 i, .int .i64 m, .int .i64 c, .int .i64 p], .int .i64 t] w fun e w' => e = .returned (.tuple #[.agg #[.int .i64 0, .int .i64 0, .int .i64 0, .int .i64 0], .int .i64 1]) ∧ Below w.heap.size w w' := by
  have CG := Lib.hid (fun w => refStep_any n i m c p 0 0 0 0 (Act.heard_none n) w)
  rw [show Act.next n i m c p 0 0 0 0 = Act.none by unfold Act.next; rw [hg]; rfl, show Act.err n i m c p = 1 by unfold Act.err; rw [hg]; rfl, show Act.val Act.none = .agg #[.int .i64 0, .int .i64 0, .int .i64 0, .int .i64 0] from rfl] at CG
  clear hg
  go_enter Try.func12, Try.ntmps12
  go_wp2_with fail
  refine (CG.out _).mono ?_; rintro e wa ⟨rfl, hb⟩; have hz := hb.size; try simp only [World.size_alloc, World.heap_drewN, World.size_setCell] at hz
  have HB1 := Lib.hid (show Below w.heap.size w wa from (by with_reducible repeat (first | exact Below.refl _ _ | apply kalloc | apply kept_drewN | apply kept_drew1 | (refine kset ?_ (by first | (simp; done) | (simp; omega)) _) | assumption | (refine bthru (by assumption) ?_))))
  have z_rr : (w.heap.size + 1) < wa.heap.size := (by omega); have rr : wa.rangeAt (w.heap.size + 1) 0 [.int .i64 0, .int .i64 0, .int .i64 0, .int .i64 0] := (by with_reducible repeat (first | exact range_new_at _ _ _ (by first | omega | (simp; done) | (simp; omega)) | apply range_put | (with_unfolding_all rfl) | (refine range_alloc ?_ (by first | omega | (simp; done) | (simp; omega)) _) | (refine range_drewN ?_ _) | apply range_drew1 | (refine range_far ?_ (by first | omega | (simp; done) | (simp; omega)) _) | assumption | (refine range_below ?_ (by assumption) (by first | omega | (simp; done) | (simp; omega))) | apply range_far | (with_reducible omega) | (simp; omega))); have f_rr : Free wa (w.heap.size + 1) := (by with_reducible repeat (first | exact free_new_at _ _ _ (by first | omega | (simp; done) | (simp; omega)) | (refine free_set ?_ _ _) | (refine free_alloc ?_ (by first | omega | (simp; done) | (simp; omega)) _) | (refine free_drewN ?_ _) | apply free_drew1 | assumption | (refine free_below ?_ (by assumption) (by first | omega | (simp; done) | (simp; omega)))))
  clear hb
  have rr_0 := range_cell rr 0 rfl; have rr_1 := range_cell rr 1 rfl; have rr_2 := range_cell rr 2 rfl; have rr_3 := range_cell rr 3 rfl
  have rr_f0 := f_rr 0; have rr_f1 := f_rr 1; have rr_f2 := f_rr 2; have rr_f3 := f_rr 3
  have := HB1.out
  go_wp2
  refine bodyPost_ret (ret_cell_tmp Try.results12 (w.heap.size + 1) [.int .i64 0, .int .i64 0, .int .i64 0, .int .i64 0] _ rfl (by with_reducible repeat (first | exact range_new_at _ _ _ (by first | omega | (simp; done) | (simp; omega)) | apply range_put | (with_unfolding_all rfl) | (refine range_alloc ?_ (by first | omega | (simp; done) | (simp; omega)) _) | (refine range_drewN ?_ _) | apply range_drew1 | (refine range_far ?_ (by first | omega | (simp; done) | (simp; omega)) _) | assumption | (refine range_below ?_ (by assumption) (by first | omega | (simp; done) | (simp; omega))) | apply range_far | (with_reducible omega) | (simp; omega))) Try.underlying23 rfl (by kernel_rfl)) rfl ⟨rfl, ?_⟩; exact (by with_reducible repeat (first | exact Below.refl _ _ | apply kalloc | apply kept_drewN | apply kept_drew1 | (refine kset ?_ (by first | (simp; done) | (simp; omega)) _) | assumption | (refine bthru (by assumption) ?_)))
set_option maxHeartbeats 1000000 in
theorem refQuiet_out (n i m c p t : Int) (hg : Act.good n i m c p = true) (ht : ¬ (0 ≤ t ∧ t ≤ 1000)) (w : World) :
    Calls Try.prog 12 #[.int .i64 n, .agg #[.int .i64 i, .int .i64 m, .int .i64 c, .int .i64 p], .int .i64 t] w fun e w' => e = .returned (.tuple #[.agg #[.int .i64 0, .int .i64 0, .int .i64 0, .int .i64 0], .int .i64 2]) ∧ Below w.heap.size w w' := by
  have CG := Lib.hid (fun w => refTick_any n ⟨i, m, c, p⟩ hg w)
  generalize Act.tick n ⟨i, m, c, p⟩ = z at *
  obtain ⟨zi, zm, zc, zp⟩ := z
  rw [show Act.val ⟨zi, zm, zc, zp⟩ = .agg #[.int .i64 zi, .int .i64 zm, .int .i64 zc, .int .i64 zp] from rfl] at CG
  clear hg
  by_cases h0 : t < 0
  all_goals
    go_enter Try.func12, Try.ntmps12
    go_wp2_with fail
    refine (CG.out _).mono ?_; rintro e wa ⟨rfl, hb⟩; have hz := hb.size; try simp only [World.size_alloc, World.heap_drewN, World.size_setCell] at hz
    have HB1 := Lib.hid (show Below w.heap.size w wa from (by with_reducible repeat (first | exact Below.refl _ _ | apply kalloc | apply kept_drewN | apply kept_drew1 | (refine kset ?_ (by first | (simp; done) | (simp; omega)) _) | assumption | (refine bthru (by assumption) ?_))))
    have z_rr : (w.heap.size + 1) < wa.heap.size := (by omega); have rr : wa.rangeAt (w.heap.size + 1) 0 [.int .i64 0, .int .i64 0, .int .i64 0, .int .i64 0] := (by with_reducible repeat (first | exact range_new_at _ _ _ (by first | omega | (simp; done) | (simp; omega)) | apply range_put | (with_unfolding_all rfl) | (refine range_alloc ?_ (by first | omega | (simp; done) | (simp; omega)) _) | (refine range_drewN ?_ _) | apply range_drew1 | (refine range_far ?_ (by first | omega | (simp; done) | (simp; omega)) _) | assumption | (refine range_below ?_ (by assumption) (by first | omega | (simp; done) | (simp; omega))) | apply range_far | (with_reducible omega) | (simp; omega))); have f_rr : Free wa (w.heap.size + 1) := (by with_reducible repeat (first | exact free_new_at _ _ _ (by first | omega | (simp; done) | (simp; omega)) | (refine free_set ?_ _ _) | (refine free_alloc ?_ (by first | omega | (simp; done) | (simp; omega)) _) | (refine free_drewN ?_ _) | apply free_drew1 | assumption | (refine free_below ?_ (by assumption) (by first | omega | (simp; done) | (simp; omega)))))
    clear hb
    have rr_0 := range_cell rr 0 rfl; have rr_1 := range_cell rr 1 rfl; have rr_2 := range_cell rr 2 rfl; have rr_3 := range_cell rr 3 rfl
    have rr_f0 := f_rr 0; have rr_f1 := f_rr 1; have rr_f2 := f_rr 2; have rr_f3 := f_rr 3
    have := HB1.out
    go_wp2
    refine bodyPost_ret (ret_cell_tmp Try.results12 (w.heap.size + 1) [.int .i64 0, .int .i64 0, .int .i64 0, .int .i64 0] _ rfl (by with_reducible repeat (first | exact range_new_at _ _ _ (by first | omega | (simp; done) | (simp; omega)) | apply range_put | (with_unfolding_all rfl) | (refine range_alloc ?_ (by first | omega | (simp; done) | (simp; omega)) _) | (refine range_drewN ?_ _) | apply range_drew1 | (refine range_far ?_ (by first | omega | (simp; done) | (simp; omega)) _) | assumption | (refine range_below ?_ (by assumption) (by first | omega | (simp; done) | (simp; omega))) | apply range_far | (with_reducible omega) | (simp; omega))) Try.underlying23 rfl (by kernel_rfl)) rfl ⟨rfl, ?_⟩; exact (by with_reducible repeat (first | exact Below.refl _ _ | apply kalloc | apply kept_drewN | apply kept_drew1 | (refine kset ?_ (by first | (simp; done) | (simp; omega)) _) | assumption | (refine bthru (by assumption) ?_)))
set_option maxHeartbeats 1000000 in
theorem refQuiet_yes (n i m c p : Int) (T : Nat) (hg : Act.good n i m c p = true) (ht : T ≤ 1000) (w : World) :
    Calls Try.prog 12 #[.int .i64 n, .agg #[.int .i64 i, .int .i64 m, .int .i64 c, .int .i64 p], .int .i64 T] w fun e w' => e = .returned (.tuple #[Act.val (Act.ticks n ⟨i, m, c, p⟩ T), .int .i64 0]) ∧ Below w.heap.size w w' := by
  have CG := Lib.hid (fun w => refTick_any n ⟨i, m, c, p⟩ hg w)
  generalize Act.tick n ⟨i, m, c, p⟩ = z at *
  obtain ⟨zi, zm, zc, zp⟩ := z
  rw [show Act.val ⟨zi, zm, zc, zp⟩ = .agg #[.int .i64 zi, .int .i64 zm, .int .i64 zc, .int .i64 zp] from rfl] at CG
  have HG := Lib.hid hg
  clear hg
  go_enter Try.func12, Try.ntmps12
  go_wp2_with fail
  refine (CG.out _).mono ?_; rintro e wa ⟨rfl, hb⟩; have hz := hb.size; try simp only [World.size_alloc, World.heap_drewN, World.size_setCell] at hz
  have HB1 := Lib.hid (show Below w.heap.size w wa from (by with_reducible repeat (first | exact Below.refl _ _ | apply kalloc | apply kept_drewN | apply kept_drew1 | (refine kset ?_ (by first | (simp; done) | (simp; omega)) _) | assumption | (refine bthru (by assumption) ?_))))
  have z_rx : (w.heap.size) < wa.heap.size := (by omega); have rx : wa.rangeAt (w.heap.size) 0 [.int .i64 i, .int .i64 m, .int .i64 c, .int .i64 p] := (by with_reducible repeat (first | exact range_new_at _ _ _ (by first | omega | (simp; done) | (simp; omega)) | apply range_put | (with_unfolding_all rfl) | (refine range_alloc ?_ (by first | omega | (simp; done) | (simp; omega)) _) | (refine range_drewN ?_ _) | apply range_drew1 | (refine range_far ?_ (by first | omega | (simp; done) | (simp; omega)) _) | assumption | (refine range_below ?_ (by assumption) (by first | omega | (simp; done) | (simp; omega))) | apply range_far | (with_reducible omega) | (simp; omega))); have f_rx : Free wa (w.heap.size) := (by with_reducible repeat (first | exact free_new_at _ _ _ (by first | omega | (simp; done) | (simp; omega)) | (refine free_set ?_ _ _) | (refine free_alloc ?_ (by first | omega | (simp; done) | (simp; omega)) _) | (refine free_drewN ?_ _) | apply free_drew1 | assumption | (refine free_below ?_ (by assumption) (by first | omega | (simp; done) | (simp; omega)))))
  have z_rr : (w.heap.size + 1) < wa.heap.size := (by omega); have rr : wa.rangeAt (w.heap.size + 1) 0 [.int .i64 0, .int .i64 0, .int .i64 0, .int .i64 0] := (by with_reducible repeat (first | exact range_new_at _ _ _ (by first | omega | (simp; done) | (simp; omega)) | apply range_put | (with_unfolding_all rfl) | (refine range_alloc ?_ (by first | omega | (simp; done) | (simp; omega)) _) | (refine range_drewN ?_ _) | apply range_drew1 | (refine range_far ?_ (by first | omega | (simp; done) | (simp; omega)) _) | assumption | (refine range_below ?_ (by assumption) (by first | omega | (simp; done) | (simp; omega))) | apply range_far | (with_reducible omega) | (simp; omega))); have f_rr : Free wa (w.heap.size + 1) := (by with_reducible repeat (first | exact free_new_at _ _ _ (by first | omega | (simp; done) | (simp; omega)) | (refine free_set ?_ _ _) | (refine free_alloc ?_ (by first | omega | (simp; done) | (simp; omega)) _) | (refine free_drewN ?_ _) | apply free_drew1 | assumption | (refine free_below ?_ (by assumption) (by first | omega | (simp; done) | (simp; omega)))))
  clear hb
  go_wp2_with fail
  have HK : Hid (Act.Kept w ⟨i, m, c, p⟩ (wa.alloc (.cells #[.int .i64 zi, .int .i64 zm, .int .i64 zc, .int .i64 zp] 23))) := by
    have := HB1.out
    exact ⟨(by simp; omega), (by with_reducible repeat (first | exact Below.refl _ _ | apply kalloc | apply kept_drewN | apply kept_drew1 | (refine kset ?_ (by first | (simp; done) | (simp; omega)) _) | assumption | (refine bthru (by assumption) ?_))), (by with_reducible repeat (first | exact range_new_at _ _ _ (by first | omega | (simp; done) | (simp; omega)) | apply range_put | (with_unfolding_all rfl) | (refine range_alloc ?_ (by first | omega | (simp; done) | (simp; omega)) _) | (refine range_drewN ?_ _) | apply range_drew1 | (refine range_far ?_ (by first | omega | (simp; done) | (simp; omega)) _) | assumption | (refine range_below ?_ (by assumption) (by first | omega | (simp; done) | (simp; omega))) | apply range_far | (with_reducible omega) | (simp; omega))), (by with_reducible repeat (first | exact free_new_at _ _ _ (by first | omega | (simp; done) | (simp; omega)) | (refine free_set ?_ _ _) | (refine free_alloc ?_ (by first | omega | (simp; done) | (simp; omega)) _) | (refine free_drewN ?_ _) | apply free_drew1 | assumption | (refine free_below ?_ (by assumption) (by first | omega | (simp; done) | (simp; omega))))), (by with_reducible repeat (first | exact range_new_at _ _ _ (by first | omega | (simp; done) | (simp; omega)) | apply range_put | (with_unfolding_all rfl) | (refine range_alloc ?_ (by first | omega | (simp; done) | (simp; omega)) _) | (refine range_drewN ?_ _) | apply range_drew1 | (refine range_far ?_ (by first | omega | (simp; done) | (simp; omega)) _) | assumption | (refine range_below ?_ (by assumption) (by first | omega | (simp; done) | (simp; omega))) | apply range_far | (with_reducible omega) | (simp; omega))), (by with_reducible repeat (first | exact free_new_at _ _ _ (by first | omega | (simp; done) | (simp; omega)) | (refine free_set ?_ _ _) | (refine free_alloc ?_ (by first | omega | (simp; done) | (simp; omega)) _) | (refine free_drewN ?_ _) | apply free_drew1 | assumption | (refine free_below ?_ (by assumption) (by first | omega | (simp; done) | (simp; omega)))))⟩
  clear rx rr f_rx f_rr HB1 CG
  go_loopw [10] (Act.Kept_rel w n ⟨i, m, c, p⟩ T) (fun k _ => T - (intOf k).toNat)
  case atStart => exact ⟨0, by omega, rfl, HK.out⟩
  case round =>
    obtain ⟨K, hKT, rfl, hk⟩ := hrel
    obtain ⟨zw, hbel, kx, f_kx, kr, f_kr⟩ := hk
    have HB := Lib.hid hbel
    clear hbel
    have hg := (Act.ticks_good (x := ⟨i, m, c, p⟩) HG.out K).2
    have e1 : Act.ticks n ⟨i, m, c, p⟩ (K + 1) = Act.tick n (Act.ticks n ⟨i, m, c, p⟩ K) := rfl
    by_cases hlt : K < T
    · have CT := Lib.hid (fun w => refTick_any n (Act.ticks n ⟨i, m, c, p⟩ K) hg w)
      rw [← e1] at CT
      clear e1 hg
      generalize hzz : Act.ticks n ⟨i, m, c, p⟩ (K + 1) = z at *
      generalize Act.ticks n ⟨i, m, c, p⟩ K = y at *
      obtain ⟨yi, ym, yc, yp⟩ := y
      obtain ⟨xi, xm, xc, xp⟩ := z
      rw [show Act.val ⟨xi, xm, xc, xp⟩ = .agg #[.int .i64 xi, .int .i64 xm, .int .i64 xc, .int .i64 xp] from rfl] at CT
      dsimp only at kx CT
      have HZ := Lib.hid hzz
      clear hzz
      have kx_0 := range_cell kx 0 rfl; have kx_1 := range_cell kx 1 rfl; have kx_2 := range_cell kx 2 rfl; have kx_3 := range_cell kx 3 rfl
      have kx_f0 := f_kx 0; have kx_f1 := f_kx 1; have kx_f2 := f_kx 2; have kx_f3 := f_kx 3
      go_wp2_with fail
      refine (CT.out _).mono ?_; rintro e w1 ⟨rfl, hb⟩; have hz := hb.size; try simp only [World.size_alloc, World.heap_drewN, World.size_setCell] at hz
      have HB1 := Lib.hid (show Below w.heap.size w w1 from by have := HB.out; exact (by with_reducible repeat (first | exact Below.refl _ _ | apply kalloc | apply kept_drewN | apply kept_drew1 | (refine kset ?_ (by first | (simp; done) | (simp; omega)) _) | assumption | (refine bthru (by assumption) ?_))))
      have z_kx : (w.heap.size) < w1.heap.size := (by omega); have kx : w1.rangeAt (w.heap.size) 0 [.int .i64 yi, .int .i64 ym, .int .i64 yc, .int .i64 yp] := (by with_reducible repeat (first | exact range_new_at _ _ _ (by first | omega | (simp; done) | (simp; omega)) | apply range_put | (with_unfolding_all rfl) | (refine range_alloc ?_ (by first | omega | (simp; done) | (simp; omega)) _) | (refine range_drewN ?_ _) | apply range_drew1 | (refine range_far ?_ (by first | omega | (simp; done) | (simp; omega)) _) | assumption | (refine range_below ?_ (by assumption) (by first | omega | (simp; done) | (simp; omega))) | apply range_far | (with_reducible omega) | (simp; omega))); have f_kx : Free w1 (w.heap.size) := (by with_reducible repeat (first | exact free_new_at _ _ _ (by first | omega | (simp; done) | (simp; omega)) | (refine free_set ?_ _ _) | (refine free_alloc ?_ (by first | omega | (simp; done) | (simp; omega)) _) | (refine free_drewN ?_ _) | apply free_drew1 | assumption | (refine free_below ?_ (by assumption) (by first | omega | (simp; done) | (simp; omega)))))
      have z_kr : (w.heap.size + 1) < w1.heap.size := (by omega); have kr : w1.rangeAt (w.heap.size + 1) 0 [.int .i64 0, .int .i64 0, .int .i64 0, .int .i64 0] := (by with_reducible repeat (first | exact range_new_at _ _ _ (by first | omega | (simp; done) | (simp; omega)) | apply range_put | (with_unfolding_all rfl) | (refine range_alloc ?_ (by first | omega | (simp; done) | (simp; omega)) _) | (refine range_drewN ?_ _) | apply range_drew1 | (refine range_far ?_ (by first | omega | (simp; done) | (simp; omega)) _) | assumption | (refine range_below ?_ (by assumption) (by first | omega | (simp; done) | (simp; omega))) | apply range_far | (with_reducible omega) | (simp; omega))); have f_kr : Free w1 (w.heap.size + 1) := (by with_reducible repeat (first | exact free_new_at _ _ _ (by first | omega | (simp; done) | (simp; omega)) | (refine free_set ?_ _ _) | (refine free_alloc ?_ (by first | omega | (simp; done) | (simp; omega)) _) | (refine free_drewN ?_ _) | apply free_drew1 | assumption | (refine free_below ?_ (by assumption) (by first | omega | (simp; done) | (simp; omega)))))
      clear hb
      have kx_0 := range_cell kx 0 rfl; have kx_1 := range_cell kx 1 rfl; have kx_2 := range_cell kx 2 rfl; have kx_3 := range_cell kx 3 rfl
      have kx_f0 := f_kx 0; have kx_f1 := f_kx 1; have kx_f2 := f_kx 2; have kx_f3 := f_kx 3
      go_wp2
      go_roundw
      case rel =>
        refine ⟨K + 1, by omega, by go_num, ?_⟩
        rw [HZ.out]
        have := HB1.out
        exact ⟨(by simp; omega), (by with_reducible repeat (first | exact Below.refl _ _ | apply kalloc | apply kept_drewN | apply kept_drew1 | (refine kset ?_ (by first | (simp; done) | (simp; omega)) _) | assumption | (refine bthru (by assumption) ?_))), (by with_reducible repeat (first | exact range_new_at _ _ _ (by first | omega | (simp; done) | (simp; omega)) | apply range_put | (with_unfolding_all rfl) | (refine range_alloc ?_ (by first | omega | (simp; done) | (simp; omega)) _) | (refine range_drewN ?_ _) | apply range_drew1 | (refine range_far ?_ (by first | omega | (simp; done) | (simp; omega)) _) | assumption | (refine range_below ?_ (by assumption) (by first | omega | (simp; done) | (simp; omega))) | apply range_far | (with_reducible omega) | (simp; omega))), (by with_reducible repeat (first | exact free_new_at _ _ _ (by first | omega | (simp; done) | (simp; omega)) | (refine free_set ?_ _ _) | (refine free_alloc ?_ (by first | omega | (simp; done) | (simp; omega)) _) | (refine free_drewN ?_ _) | apply free_drew1 | assumption | (refine free_below ?_ (by assumption) (by first | omega | (simp; done) | (simp; omega))))), (by with_reducible repeat (first | exact range_new_at _ _ _ (by first | omega | (simp; done) | (simp; omega)) | apply range_put | (with_unfolding_all rfl) | (refine range_alloc ?_ (by first | omega | (simp; done) | (simp; omega)) _) | (refine range_drewN ?_ _) | apply range_drew1 | (refine range_far ?_ (by first | omega | (simp; done) | (simp; omega)) _) | assumption | (refine range_below ?_ (by assumption) (by first | omega | (simp; done) | (simp; omega))) | apply range_far | (with_reducible omega) | (simp; omega))), (by with_reducible repeat (first | exact free_new_at _ _ _ (by first | omega | (simp; done) | (simp; omega)) | (refine free_set ?_ _ _) | (refine free_alloc ?_ (by first | omega | (simp; done) | (simp; omega)) _) | (refine free_drewN ?_ _) | apply free_drew1 | assumption | (refine free_below ?_ (by assumption) (by first | omega | (simp; done) | (simp; omega)))))⟩
      case measure => simp [intOf]; omega
    · obtain rfl : K = T := by omega
      clear e1 hg
      have kx_0 := range_cell kx 0 rfl; have kx_1 := range_cell kx 1 rfl; have kx_2 := range_cell kx 2 rfl; have kx_3 := range_cell kx 3 rfl
      have kx_f0 := f_kx 0; have kx_f1 := f_kx 1; have kx_f2 := f_kx 2; have kx_f3 := f_kx 3
      have kr_0 := range_cell kr 0 rfl; have kr_1 := range_cell kr 1 rfl; have kr_2 := range_cell kr 2 rfl; have kr_3 := range_cell kr 3 rfl
      have kr_f0 := f_kr 0; have kr_f1 := f_kr 1; have kr_f2 := f_kr 2; have kr_f3 := f_kr 3
      have := HB.out
      go_wp2
      refine bodyPost_ret (ret_cell_tmp Try.results12 (w.heap.size + 1) [.int .i64 (Act.ticks n ⟨i, m, c, p⟩ K).i, .int .i64 (Act.ticks n ⟨i, m, c, p⟩ K).m, .int .i64 (Act.ticks n ⟨i, m, c, p⟩ K).c, .int .i64 (Act.ticks n ⟨i, m, c, p⟩ K).p] _ rfl (by with_reducible repeat (first | exact range_new_at _ _ _ (by first | omega | (simp; done) | (simp; omega)) | apply range_put | (with_unfolding_all rfl) | (refine range_alloc ?_ (by first | omega | (simp; done) | (simp; omega)) _) | (refine range_drewN ?_ _) | apply range_drew1 | (refine range_far ?_ (by first | omega | (simp; done) | (simp; omega)) _) | assumption | (refine range_below ?_ (by assumption) (by first | omega | (simp; done) | (simp; omega))) | apply range_far | (with_reducible omega) | (simp; omega))) Try.underlying23 rfl (by kernel_rfl)) rfl ⟨rfl, ?_⟩; exact (by with_reducible repeat (first | exact Below.refl _ _ | apply kalloc | apply kept_drewN | apply kept_drew1 | (refine kset ?_ (by first | (simp; done) | (simp; omega)) _) | assumption | (refine bthru (by assumption) ?_)))
theorem refQuiet_any (n i m c p t : Int) (w : World) :
    Calls Try.prog 12 #[.int .i64 n, .agg #[.int .i64 i, .int .i64 m, .int .i64 c, .int .i64 p], .int .i64 t] w fun e w' => e = .returned (.tuple #[Act.val (Act.quiet n i m c p t), .int .i64 (Act.quietErr n i m c p t)]) ∧ Below w.heap.size w w' := by
  by_cases hg : Act.good n i m c p = true
  · by_cases ht : 0 ≤ t ∧ t ≤ 1000
    · obtain ⟨T, rfl⟩ := Int.eq_ofNat_of_zero_le ht.1
      rw [show Act.quiet n i m c p T = Act.ticks n ⟨i, m, c, p⟩ T by unfold Act.quiet; rw [if_pos ⟨hg, ht⟩]; rfl, show Act.quietErr n i m c p T = 0 by unfold Act.quietErr; rw [if_pos hg, if_pos ht]]
      exact refQuiet_yes n i m c p T hg (by omega) w
    · rw [show Act.quiet n i m c p t = Act.none by unfold Act.quiet; rw [if_neg (fun h => ht h.2)], show Act.quietErr n i m c p t = 2 by unfold Act.quietErr; rw [if_pos hg, if_neg ht]]
      exact refQuiet_out n i m c p t hg ht w
  · rw [show Act.quiet n i m c p t = Act.none by unfold Act.quiet; rw [if_neg (fun h => hg h.1)], show Act.quietErr n i m c p t = 1 by unfold Act.quietErr; rw [if_neg hg]]
    exact refQuiet_no n i m c p t (Bool.eq_false_iff.2 hg) w
end Go.Proofs.Ytjkdmnodamcjnaa
