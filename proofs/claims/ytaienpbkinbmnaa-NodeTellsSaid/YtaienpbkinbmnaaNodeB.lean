
import Derived.Test.YtaienpbkinbmnaaRows
import Derived.Test.YtaienpbkinbmnaaNodeA
namespace Go.Proofs.Ytaienpbkinbmnaa
set_option linter.unusedVariables false
open Go.ChangeShapes Go.WideShapes Go.RowKit

theorem nfresh_any (n i : Int) (w : World) :
    Calls Try.prog 5 #[.int .i64 n, .int .i64 i] w fun e w' => e = .returned (.tuple #[.agg #[.int .i64 (if Conf.err n i = 0 then i else 0), .int .i64 0, .int .i64 0, .int .i64 0], .int .i64 (Conf.err n i)]) ∧ Below w.heap.size w w' := by
  by_cases h : Conf.err n i = 0
  · rw [if_pos h, h]
    go_enter Try.func5, Try.ntmps5
    go_wp2_with fail
    refine (nplace_any _ _ _).mono ?_; rintro e w' ⟨rfl, rfl⟩
    rw [h]
    go_wp2
    refine bodyPost_ret (ret_cell_tmp Try.results5 (w.heap.size) [.int .i64 i, .int .i64 0, .int .i64 0, .int .i64 0] _ rfl (by with_reducible repeat (first | exact range_new_at _ _ _ (by first | (simp; done) | (simp; omega)) | apply range_put | (with_unfolding_all rfl) | (refine range_alloc ?_ (by first | (simp; done) | (simp; omega)) _) | (refine range_drewN ?_ _) | (refine range_far ?_ (by first | (simp; done) | (simp; omega)) _) | assumption | (refine range_below ?_ (by assumption) (by first | (simp; done) | (simp; omega))))) Try.underlying23 rfl (by kernel_rfl)) rfl ⟨rfl, ?_⟩; exact (by with_reducible repeat (first | exact Below.refl _ _ | apply kalloc | apply kept_drewN | (refine kset ?_ (by first | (simp; done) | (simp; omega)) _) | assumption | (refine bthru (by assumption) ?_)))
  · rw [if_neg h]
    have h1 : (Conf.err n i != 0) = true := by simp [h]
    go_enter Try.func5, Try.ntmps5
    go_wp2_with fail
    refine (nplace_any _ _ _).mono ?_; rintro e w' ⟨rfl, rfl⟩
    go_wp2
    refine bodyPost_ret (ret_cell_tmp Try.results5 (w.heap.size) [.int .i64 0, .int .i64 0, .int .i64 0, .int .i64 0] _ rfl (by with_reducible repeat (first | exact range_new_at _ _ _ (by first | (simp; done) | (simp; omega)) | apply range_put | (with_unfolding_all rfl) | (refine range_alloc ?_ (by first | (simp; done) | (simp; omega)) _) | (refine range_drewN ?_ _) | (refine range_far ?_ (by first | (simp; done) | (simp; omega)) _) | assumption | (refine range_below ?_ (by assumption) (by first | (simp; done) | (simp; omega))))) Try.underlying23 rfl (by kernel_rfl)) rfl ⟨rfl, ?_⟩; exact (by with_reducible repeat (first | exact Below.refl _ _ | apply kalloc | apply kept_drewN | (refine kset ?_ (by first | (simp; done) | (simp; omega)) _) | assumption | (refine bthru (by assumption) ?_)))
theorem refNfresh_any (n i : Int) (w : World) :
    Calls Try.prog 6 #[.int .i64 n, .int .i64 i] w fun e w' => e = .returned (.tuple #[.agg #[.int .i64 (if Conf.err n i = 0 then i else 0), .int .i64 0, .int .i64 0, .int .i64 0], .int .i64 (Conf.err n i)]) ∧ Below w.heap.size w w' := by
  by_cases h : Conf.right n = true
  · by_cases h2 : 0 ≤ i ∧ i < n
    · rw [Conf.err_yes h h2]
      go_enter Try.func6, Try.ntmps6
      go_wp2_with fail
      refine (refCright_any _ _).mono ?_; rintro e w' ⟨rfl, rfl⟩
      rw [h]
      go_wp2
      refine bodyPost_ret (ret_cell_tmp Try.results6 (w.heap.size) [.int .i64 i, .int .i64 0, .int .i64 0, .int .i64 0] _ rfl (by with_reducible repeat (first | exact range_new_at _ _ _ (by first | (simp; done) | (simp; omega)) | apply range_put | (with_unfolding_all rfl) | (refine range_alloc ?_ (by first | (simp; done) | (simp; omega)) _) | (refine range_drewN ?_ _) | (refine range_far ?_ (by first | (simp; done) | (simp; omega)) _) | assumption | (refine range_below ?_ (by assumption) (by first | (simp; done) | (simp; omega))))) Try.underlying23 rfl (by kernel_rfl)) rfl ⟨rfl, ?_⟩; exact (by with_reducible repeat (first | exact Below.refl _ _ | apply kalloc | apply kept_drewN | (refine kset ?_ (by first | (simp; done) | (simp; omega)) _) | assumption | (refine bthru (by assumption) ?_)))
    · rw [Conf.err_none h h2]
      by_cases h3 : i < 0
      all_goals
        go_enter Try.func6, Try.ntmps6
        go_wp2_with fail
        refine (refCright_any _ _).mono ?_; rintro e w' ⟨rfl, rfl⟩
        rw [h]
        go_wp2
        refine bodyPost_ret (ret_cell_tmp Try.results6 (w.heap.size) [.int .i64 0, .int .i64 0, .int .i64 0, .int .i64 0] _ rfl (by with_reducible repeat (first | exact range_new_at _ _ _ (by first | (simp; done) | (simp; omega)) | apply range_put | (with_unfolding_all rfl) | (refine range_alloc ?_ (by first | (simp; done) | (simp; omega)) _) | (refine range_drewN ?_ _) | (refine range_far ?_ (by first | (simp; done) | (simp; omega)) _) | assumption | (refine range_below ?_ (by assumption) (by first | (simp; done) | (simp; omega))))) Try.underlying23 rfl (by kernel_rfl)) rfl ⟨rfl, ?_⟩; exact (by with_reducible repeat (first | exact Below.refl _ _ | apply kalloc | apply kept_drewN | (refine kset ?_ (by first | (simp; done) | (simp; omega)) _) | assumption | (refine bthru (by assumption) ?_)))
  · rw [Conf.err_no (Bool.eq_false_iff.2 h)]
    go_enter Try.func6, Try.ntmps6
    go_wp2_with fail
    refine (refCright_any _ _).mono ?_; rintro e w' ⟨rfl, rfl⟩
    rw [show Conf.right n = false from Bool.eq_false_iff.2 h]
    go_wp2
    refine bodyPost_ret (ret_cell_tmp Try.results6 (w.heap.size) [.int .i64 0, .int .i64 0, .int .i64 0, .int .i64 0] _ rfl (by with_reducible repeat (first | exact range_new_at _ _ _ (by first | (simp; done) | (simp; omega)) | apply range_put | (with_unfolding_all rfl) | (refine range_alloc ?_ (by first | (simp; done) | (simp; omega)) _) | (refine range_drewN ?_ _) | (refine range_far ?_ (by first | (simp; done) | (simp; omega)) _) | assumption | (refine range_below ?_ (by assumption) (by first | (simp; done) | (simp; omega))))) Try.underlying23 rfl (by kernel_rfl)) rfl ⟨rfl, ?_⟩; exact (by with_reducible repeat (first | exact Below.refl _ _ | apply kalloc | apply kept_drewN | (refine kset ?_ (by first | (simp; done) | (simp; omega)) _) | assumption | (refine bthru (by assumption) ?_)))
theorem nwake_any (i m c p : Int) (w : World) :
    Calls Try.prog 12 #[.agg #[.int .i64 i, .int .i64 m, .int .i64 c, .int .i64 p]] w fun e w' => e = .returned (.agg #[.int .i64 i, .int .i64 1, .int .i64 0, .int .i64 0]) ∧ Below w.heap.size w w' := by
  go_enter Try.func12, Try.ntmps12
  go_wp2
  refine bodyPost_ret (ret_cell Try.results12 (w.heap.size + 1) [.int .i64 i, .int .i64 1, .int .i64 0, .int .i64 0] _ rfl (by with_reducible repeat (first | exact range_new_at _ _ _ (by first | (simp; done) | (simp; omega)) | apply range_put | (with_unfolding_all rfl) | (refine range_alloc ?_ (by first | (simp; done) | (simp; omega)) _) | (refine range_drewN ?_ _) | (refine range_far ?_ (by first | (simp; done) | (simp; omega)) _) | assumption | (refine range_below ?_ (by assumption) (by first | (simp; done) | (simp; omega))))) Try.underlying23 rfl (by kernel_rfl)) rfl ⟨rfl, ?_⟩; exact (by with_reducible repeat (first | exact Below.refl _ _ | apply kalloc | apply kept_drewN | (refine kset ?_ (by first | (simp; done) | (simp; omega)) _) | assumption | (refine bthru (by assumption) ?_)))
theorem refNwake_any (i m c p : Int) (w : World) :
    Calls Try.prog 13 #[.agg #[.int .i64 i, .int .i64 m, .int .i64 c, .int .i64 p]] w fun e w' => e = .returned (.agg #[.int .i64 i, .int .i64 1, .int .i64 0, .int .i64 0]) ∧ Below w.heap.size w w' := by
  go_enter Try.func13, Try.ntmps13
  go_wp2
  refine bodyPost_ret (ret_cell Try.results13 (w.heap.size + 1) [.int .i64 i, .int .i64 1, .int .i64 0, .int .i64 0] _ rfl (by with_reducible repeat (first | exact range_new_at _ _ _ (by first | (simp; done) | (simp; omega)) | apply range_put | (with_unfolding_all rfl) | (refine range_alloc ?_ (by first | (simp; done) | (simp; omega)) _) | (refine range_drewN ?_ _) | (refine range_far ?_ (by first | (simp; done) | (simp; omega)) _) | assumption | (refine range_below ?_ (by assumption) (by first | (simp; done) | (simp; omega))))) Try.underlying23 rfl (by kernel_rfl)) rfl ⟨rfl, ?_⟩; exact (by with_reducible repeat (first | exact Below.refl _ _ | apply kalloc | apply kept_drewN | (refine kset ?_ (by first | (simp; done) | (simp; omega)) _) | assumption | (refine bthru (by assumption) ?_)))
/-- What a node is, made right. -/
def Node.cleaned (n i m c p : Int) : Array Value := if Conf.err n i = 0 then #[.int .i64 i, .int .i64 (Node.mode m), .int .i64 (Node.count c), .int .i64 (Node.pos n m p)] else #[.int .i64 0, .int .i64 0, .int .i64 0, .int .i64 0]
theorem nclean_any (n i i0 m c p : Int) (hc : -9223372036854775808 ≤ c ∧ c ≤ 9223372036854775807) (w : World) :
    Calls Try.prog 7 #[.int .i64 n, .int .i64 i, .agg #[.int .i64 i0, .int .i64 m, .int .i64 c, .int .i64 p]] w fun e w' => e = .returned (.tuple #[.agg (Node.cleaned n i m c p), .int .i64 (Conf.err n i)]) ∧ Below w.heap.size w w' := by
  by_cases h : Conf.err n i = 0
  · unfold Node.cleaned
    rw [if_pos h, h]
    have hn := (Node.err_zero n i).1 h
    by_cases h3 : m = 3
    · subst h3
      obtain ⟨q, hq⟩ : ∃ q, q = Node.pos n 3 p := ⟨_, rfl⟩
      have hq2 := Lib.hid (show p % n = q from hq.symm)
      rw [show Node.mode 3 = 3 from rfl, ← hq, show Node.count c = Tally.clamp c 0 1073741824 from rfl]
      clear hq
      go_enter Try.func7, Try.ntmps7
      go_wp2_with fail
      refine (nplace_any _ _ _).mono ?_; rintro e w' ⟨rfl, rfl⟩
      rw [h]
      go_wp2_with fail
      refine (clamp_any _ _ _ (by omega) (by omega) (by omega) _).mono ?_; rintro e w' ⟨rfl, rfl⟩
      go_wp2_with fail
      refine (mod_any _ _ (by omega) (by omega) _).mono ?_; rintro e w' ⟨rfl, rfl⟩
      rw [hq2.out]
      go_wp2
      refine bodyPost_ret (ret_cell_tmp Try.results7 (w.heap.size + 1) [.int .i64 i, .int .i64 3, .int .i64 (Tally.clamp c 0 1073741824), .int .i64 q] _ rfl (by with_reducible repeat (first | exact range_new_at _ _ _ (by first | (simp; done) | (simp; omega)) | apply range_put | (with_unfolding_all rfl) | (refine range_alloc ?_ (by first | (simp; done) | (simp; omega)) _) | (refine range_drewN ?_ _) | (refine range_far ?_ (by first | (simp; done) | (simp; omega)) _) | assumption | (refine range_below ?_ (by assumption) (by first | (simp; done) | (simp; omega))))) Try.underlying23 rfl (by kernel_rfl)) rfl ⟨rfl, ?_⟩; exact (by with_reducible repeat (first | exact Below.refl _ _ | apply kalloc | apply kept_drewN | (refine kset ?_ (by first | (simp; done) | (simp; omega)) _) | assumption | (refine bthru (by assumption) ?_)))
    · by_cases h1 : m = 1
      · subst h1
        rw [show Node.mode 1 = 1 from rfl, show Node.pos n 1 p = 0 from rfl, show Node.count c = Tally.clamp c 0 1073741824 from rfl]
        go_enter Try.func7, Try.ntmps7
        go_wp2_with fail
        refine (nplace_any _ _ _).mono ?_; rintro e w' ⟨rfl, rfl⟩
        rw [h]
        go_wp2_with fail
        refine (clamp_any _ _ _ (by omega) (by omega) (by omega) _).mono ?_; rintro e w' ⟨rfl, rfl⟩
        go_wp2
        refine bodyPost_ret (ret_cell_tmp Try.results7 (w.heap.size + 1) [.int .i64 i, .int .i64 1, .int .i64 (Tally.clamp c 0 1073741824), .int .i64 0] _ rfl (by with_reducible repeat (first | exact range_new_at _ _ _ (by first | (simp; done) | (simp; omega)) | apply range_put | (with_unfolding_all rfl) | (refine range_alloc ?_ (by first | (simp; done) | (simp; omega)) _) | (refine range_drewN ?_ _) | (refine range_far ?_ (by first | (simp; done) | (simp; omega)) _) | assumption | (refine range_below ?_ (by assumption) (by first | (simp; done) | (simp; omega))))) Try.underlying23 rfl (by kernel_rfl)) rfl ⟨rfl, ?_⟩; exact (by with_reducible repeat (first | exact Below.refl _ _ | apply kalloc | apply kept_drewN | (refine kset ?_ (by first | (simp; done) | (simp; omega)) _) | assumption | (refine bthru (by assumption) ?_)))
      · by_cases h2 : m = 2
        · subst h2
          rw [show Node.mode 2 = 2 from rfl, show Node.pos n 2 p = 0 from rfl, show Node.count c = Tally.clamp c 0 1073741824 from rfl]
          go_enter Try.func7, Try.ntmps7
          go_wp2_with fail
          refine (nplace_any _ _ _).mono ?_; rintro e w' ⟨rfl, rfl⟩
          rw [h]
          go_wp2_with fail
          refine (clamp_any _ _ _ (by omega) (by omega) (by omega) _).mono ?_; rintro e w' ⟨rfl, rfl⟩
          go_wp2
          refine bodyPost_ret (ret_cell_tmp Try.results7 (w.heap.size + 1) [.int .i64 i, .int .i64 2, .int .i64 (Tally.clamp c 0 1073741824), .int .i64 0] _ rfl (by with_reducible repeat (first | exact range_new_at _ _ _ (by first | (simp; done) | (simp; omega)) | apply range_put | (with_unfolding_all rfl) | (refine range_alloc ?_ (by first | (simp; done) | (simp; omega)) _) | (refine range_drewN ?_ _) | (refine range_far ?_ (by first | (simp; done) | (simp; omega)) _) | assumption | (refine range_below ?_ (by assumption) (by first | (simp; done) | (simp; omega))))) Try.underlying23 rfl (by kernel_rfl)) rfl ⟨rfl, ?_⟩; exact (by with_reducible repeat (first | exact Below.refl _ _ | apply kalloc | apply kept_drewN | (refine kset ?_ (by first | (simp; done) | (simp; omega)) _) | assumption | (refine bthru (by assumption) ?_)))
        · have q1 : (m == 1) = false := by simp [h1]
          have q2 : (m == 2) = false := by simp [h2]
          have q3 : (m == 3) = false := by simp [h3]
          rw [show Node.count c = Tally.clamp c 0 1073741824 from rfl, show Node.mode m = 1 by unfold Node.mode; rw [if_neg (by omega)], show Node.pos n m p = 0 by unfold Node.pos; rw [if_neg h3]]
          go_enter Try.func7, Try.ntmps7
          go_wp2_with fail
          refine (nplace_any _ _ _).mono ?_; rintro e w' ⟨rfl, rfl⟩
          rw [h]
          go_wp2_with fail
          refine (clamp_any _ _ _ (by omega) (by omega) (by omega) _).mono ?_; rintro e w' ⟨rfl, rfl⟩
          go_wp2
          refine bodyPost_ret (ret_cell_tmp Try.results7 (w.heap.size + 1) [.int .i64 i, .int .i64 1, .int .i64 (Tally.clamp c 0 1073741824), .int .i64 0] _ rfl (by with_reducible repeat (first | exact range_new_at _ _ _ (by first | (simp; done) | (simp; omega)) | apply range_put | (with_unfolding_all rfl) | (refine range_alloc ?_ (by first | (simp; done) | (simp; omega)) _) | (refine range_drewN ?_ _) | (refine range_far ?_ (by first | (simp; done) | (simp; omega)) _) | assumption | (refine range_below ?_ (by assumption) (by first | (simp; done) | (simp; omega))))) Try.underlying23 rfl (by kernel_rfl)) rfl ⟨rfl, ?_⟩; exact (by with_reducible repeat (first | exact Below.refl _ _ | apply kalloc | apply kept_drewN | (refine kset ?_ (by first | (simp; done) | (simp; omega)) _) | assumption | (refine bthru (by assumption) ?_)))
  · unfold Node.cleaned
    rw [if_neg h]
    have h1 : (Conf.err n i != 0) = true := by simp [h]
    go_enter Try.func7, Try.ntmps7
    go_wp2_with fail
    refine (nplace_any _ _ _).mono ?_; rintro e w' ⟨rfl, rfl⟩
    go_wp2
    refine bodyPost_ret (ret_cell_tmp Try.results7 (w.heap.size + 1) [.int .i64 0, .int .i64 0, .int .i64 0, .int .i64 0] _ rfl (by with_reducible repeat (first | exact range_new_at _ _ _ (by first | (simp; done) | (simp; omega)) | apply range_put | (with_unfolding_all rfl) | (refine range_alloc ?_ (by first | (simp; done) | (simp; omega)) _) | (refine range_drewN ?_ _) | (refine range_far ?_ (by first | (simp; done) | (simp; omega)) _) | assumption | (refine range_below ?_ (by assumption) (by first | (simp; done) | (simp; omega))))) Try.underlying23 rfl (by kernel_rfl)) rfl ⟨rfl, ?_⟩; exact (by with_reducible repeat (first | exact Below.refl _ _ | apply kalloc | apply kept_drewN | (refine kset ?_ (by first | (simp; done) | (simp; omega)) _) | assumption | (refine bthru (by assumption) ?_)))
theorem refNclean_any (n i i0 m c p : Int) (w : World) :
    Calls Try.prog 8 #[.int .i64 n, .int .i64 i, .agg #[.int .i64 i0, .int .i64 m, .int .i64 c, .int .i64 p]] w fun e w' => e = .returned (.tuple #[.agg (Node.cleaned n i m c p), .int .i64 (Conf.err n i)]) ∧ Below w.heap.size w w' := by
  by_cases h : Conf.err n i = 0
  · unfold Node.cleaned
    rw [if_pos h, h]
    have hn := (Node.err_zero n i).1 h
    by_cases h3 : m = 3
    · subst h3
      obtain ⟨q, hq⟩ : ∃ q, q = Node.pos n 3 p := ⟨_, rfl⟩
      have hq2 := Lib.hid (show p % n = q from hq.symm)
      rw [show Node.mode 3 = 3 from rfl, ← hq, show Node.count c = Tally.clamp c 0 1073741824 from rfl]
      clear hq
      go_enter Try.func8, Try.ntmps8
      go_wp2_with fail
      refine (refNfresh_any _ _ _).mono ?_; rintro e w1 ⟨rfl, hb⟩; obtain ⟨hc, hf, hz⟩ := bcall hb; try simp only [World.size_alloc, World.heap_drewN] at hz
      rw [if_pos h, h]
      have z0 : (w.heap.size) < w1.heap.size := (by omega); have rr : w1.rangeAt (w.heap.size) 0 [.int .i64 i0, .int .i64 3, .int .i64 c, .int .i64 p] := (by with_reducible repeat (first | exact range_new_at _ _ _ (by first | (simp; done) | (simp; omega)) | apply range_put | (with_unfolding_all rfl) | (refine range_alloc ?_ (by first | (simp; done) | (simp; omega)) _) | (refine range_drewN ?_ _) | (refine range_far ?_ (by first | (simp; done) | (simp; omega)) _) | assumption | (refine range_below ?_ (by assumption) (by first | (simp; done) | (simp; omega))))); have k0 := range_cell rr 0 rfl; have k1 := range_cell rr 1 rfl; have k2 := range_cell rr 2 rfl; have k3 := range_cell rr 3 rfl
      have z9 : (w.heap.size + 1) < w1.heap.size := (by omega); have rw4 : w1.rangeAt (w.heap.size + 1) 0 [.int .i64 0, .int .i64 0, .int .i64 0, .int .i64 0] := (by with_reducible repeat (first | exact range_new_at _ _ _ (by first | (simp; done) | (simp; omega)) | apply range_put | (with_unfolding_all rfl) | (refine range_alloc ?_ (by first | (simp; done) | (simp; omega)) _) | (refine range_drewN ?_ _) | (refine range_far ?_ (by first | (simp; done) | (simp; omega)) _) | assumption | (refine range_below ?_ (by assumption) (by first | (simp; done) | (simp; omega))))); have v0 := range_cell rw4 0 rfl; have v1 := range_cell rw4 1 rfl; have v2 := range_cell rw4 2 rfl; have v3 := range_cell rw4 3 rfl; have g0 := hf (w.heap.size + 1) 0 (by first | (simp; done) | (simp; omega) | omega); have g1 := hf (w.heap.size + 1) 1 (by first | (simp; done) | (simp; omega) | omega); have g2 := hf (w.heap.size + 1) 2 (by first | (simp; done) | (simp; omega) | omega); have g3 := hf (w.heap.size + 1) 3 (by first | (simp; done) | (simp; omega) | omega); simp [go_sem] at g0; simp [go_sem] at g1; simp [go_sem] at g2; simp [go_sem] at g3
      go_wp2_with fail
      refine (refClamp_any _ _ _ _).mono ?_; rintro e w' ⟨rfl, rfl⟩
      go_wp2_with fail
      refine (refMod_any _ _ (by omega) (by omega) _).mono ?_; rintro e w' ⟨rfl, rfl⟩
      rw [hq2.out]
      go_wp2
      refine bodyPost_ret (ret_cell_tmp Try.results8 (w.heap.size + 1) [.int .i64 i, .int .i64 3, .int .i64 (Tally.clamp c 0 1073741824), .int .i64 q] _ rfl (by with_reducible repeat (first | exact range_new_at _ _ _ (by first | (simp; done) | (simp; omega)) | apply range_put | (with_unfolding_all rfl) | (refine range_alloc ?_ (by first | (simp; done) | (simp; omega)) _) | (refine range_drewN ?_ _) | (refine range_far ?_ (by first | (simp; done) | (simp; omega)) _) | assumption | (refine range_below ?_ (by assumption) (by first | (simp; done) | (simp; omega))))) Try.underlying23 rfl (by kernel_rfl)) rfl ⟨rfl, ?_⟩; exact (by with_reducible repeat (first | exact Below.refl _ _ | apply kalloc | apply kept_drewN | (refine kset ?_ (by first | (simp; done) | (simp; omega)) _) | assumption | (refine bthru (by assumption) ?_)))
    · rw [show Node.count c = Tally.clamp c 0 1073741824 from rfl]
      by_cases h1 : m = 1 ∨ m = 2
      · rw [show Node.mode m = m by unfold Node.mode; rw [if_pos (by omega)], show Node.pos n m p = 0 by unfold Node.pos; rw [if_neg h3]]
        have q1 : decide (m < 1) = false := by simp; omega
        have q2 : decide (3 < m) = false := by simp; omega
        have q3 : (m == 3) = false := by simp [h3]
        go_enter Try.func8, Try.ntmps8
        go_wp2_with fail
        refine (refNfresh_any _ _ _).mono ?_; rintro e w1 ⟨rfl, hb⟩; obtain ⟨hc, hf, hz⟩ := bcall hb; try simp only [World.size_alloc, World.heap_drewN] at hz
        rw [if_pos h, h]
        have z0 : (w.heap.size) < w1.heap.size := (by omega); have rr : w1.rangeAt (w.heap.size) 0 [.int .i64 i0, .int .i64 m, .int .i64 c, .int .i64 p] := (by with_reducible repeat (first | exact range_new_at _ _ _ (by first | (simp; done) | (simp; omega)) | apply range_put | (with_unfolding_all rfl) | (refine range_alloc ?_ (by first | (simp; done) | (simp; omega)) _) | (refine range_drewN ?_ _) | (refine range_far ?_ (by first | (simp; done) | (simp; omega)) _) | assumption | (refine range_below ?_ (by assumption) (by first | (simp; done) | (simp; omega))))); have k0 := range_cell rr 0 rfl; have k1 := range_cell rr 1 rfl; have k2 := range_cell rr 2 rfl; have k3 := range_cell rr 3 rfl
        have z9 : (w.heap.size + 1) < w1.heap.size := (by omega); have rw4 : w1.rangeAt (w.heap.size + 1) 0 [.int .i64 0, .int .i64 0, .int .i64 0, .int .i64 0] := (by with_reducible repeat (first | exact range_new_at _ _ _ (by first | (simp; done) | (simp; omega)) | apply range_put | (with_unfolding_all rfl) | (refine range_alloc ?_ (by first | (simp; done) | (simp; omega)) _) | (refine range_drewN ?_ _) | (refine range_far ?_ (by first | (simp; done) | (simp; omega)) _) | assumption | (refine range_below ?_ (by assumption) (by first | (simp; done) | (simp; omega))))); have v0 := range_cell rw4 0 rfl; have v1 := range_cell rw4 1 rfl; have v2 := range_cell rw4 2 rfl; have v3 := range_cell rw4 3 rfl; have g0 := hf (w.heap.size + 1) 0 (by first | (simp; done) | (simp; omega) | omega); have g1 := hf (w.heap.size + 1) 1 (by first | (simp; done) | (simp; omega) | omega); have g2 := hf (w.heap.size + 1) 2 (by first | (simp; done) | (simp; omega) | omega); have g3 := hf (w.heap.size + 1) 3 (by first | (simp; done) | (simp; omega) | omega); simp [go_sem] at g0; simp [go_sem] at g1; simp [go_sem] at g2; simp [go_sem] at g3
        go_wp2_with fail
        refine (refClamp_any _ _ _ _).mono ?_; rintro e w' ⟨rfl, rfl⟩
        go_wp2
        refine bodyPost_ret (ret_cell_tmp Try.results8 (w.heap.size + 1) [.int .i64 i, .int .i64 m, .int .i64 (Tally.clamp c 0 1073741824), .int .i64 0] _ rfl (by with_reducible repeat (first | exact range_new_at _ _ _ (by first | (simp; done) | (simp; omega)) | apply range_put | (with_unfolding_all rfl) | (refine range_alloc ?_ (by first | (simp; done) | (simp; omega)) _) | (refine range_drewN ?_ _) | (refine range_far ?_ (by first | (simp; done) | (simp; omega)) _) | assumption | (refine range_below ?_ (by assumption) (by first | (simp; done) | (simp; omega))))) Try.underlying23 rfl (by kernel_rfl)) rfl ⟨rfl, ?_⟩; exact (by with_reducible repeat (first | exact Below.refl _ _ | apply kalloc | apply kept_drewN | (refine kset ?_ (by first | (simp; done) | (simp; omega)) _) | assumption | (refine bthru (by assumption) ?_)))
      · rw [show Node.mode m = 1 by unfold Node.mode; rw [if_neg (by omega)], show Node.pos n m p = 0 by unfold Node.pos; rw [if_neg h3]]
        by_cases h2 : m < 1
        · have q1 : decide (m < 1) = true := by simp; omega
          go_enter Try.func8, Try.ntmps8
          go_wp2_with fail
          refine (refNfresh_any _ _ _).mono ?_; rintro e w1 ⟨rfl, hb⟩; obtain ⟨hc, hf, hz⟩ := bcall hb; try simp only [World.size_alloc, World.heap_drewN] at hz
          rw [if_pos h, h]
          have z0 : (w.heap.size) < w1.heap.size := (by omega); have rr : w1.rangeAt (w.heap.size) 0 [.int .i64 i0, .int .i64 m, .int .i64 c, .int .i64 p] := (by with_reducible repeat (first | exact range_new_at _ _ _ (by first | (simp; done) | (simp; omega)) | apply range_put | (with_unfolding_all rfl) | (refine range_alloc ?_ (by first | (simp; done) | (simp; omega)) _) | (refine range_drewN ?_ _) | (refine range_far ?_ (by first | (simp; done) | (simp; omega)) _) | assumption | (refine range_below ?_ (by assumption) (by first | (simp; done) | (simp; omega))))); have k0 := range_cell rr 0 rfl; have k1 := range_cell rr 1 rfl; have k2 := range_cell rr 2 rfl; have k3 := range_cell rr 3 rfl
          have z9 : (w.heap.size + 1) < w1.heap.size := (by omega); have rw4 : w1.rangeAt (w.heap.size + 1) 0 [.int .i64 0, .int .i64 0, .int .i64 0, .int .i64 0] := (by with_reducible repeat (first | exact range_new_at _ _ _ (by first | (simp; done) | (simp; omega)) | apply range_put | (with_unfolding_all rfl) | (refine range_alloc ?_ (by first | (simp; done) | (simp; omega)) _) | (refine range_drewN ?_ _) | (refine range_far ?_ (by first | (simp; done) | (simp; omega)) _) | assumption | (refine range_below ?_ (by assumption) (by first | (simp; done) | (simp; omega))))); have v0 := range_cell rw4 0 rfl; have v1 := range_cell rw4 1 rfl; have v2 := range_cell rw4 2 rfl; have v3 := range_cell rw4 3 rfl; have g0 := hf (w.heap.size + 1) 0 (by first | (simp; done) | (simp; omega) | omega); have g1 := hf (w.heap.size + 1) 1 (by first | (simp; done) | (simp; omega) | omega); have g2 := hf (w.heap.size + 1) 2 (by first | (simp; done) | (simp; omega) | omega); have g3 := hf (w.heap.size + 1) 3 (by first | (simp; done) | (simp; omega) | omega); simp [go_sem] at g0; simp [go_sem] at g1; simp [go_sem] at g2; simp [go_sem] at g3
          go_wp2_with fail
          refine (refClamp_any _ _ _ _).mono ?_; rintro e w' ⟨rfl, rfl⟩
          go_wp2
          refine bodyPost_ret (ret_cell_tmp Try.results8 (w.heap.size + 1) [.int .i64 i, .int .i64 1, .int .i64 (Tally.clamp c 0 1073741824), .int .i64 0] _ rfl (by with_reducible repeat (first | exact range_new_at _ _ _ (by first | (simp; done) | (simp; omega)) | apply range_put | (with_unfolding_all rfl) | (refine range_alloc ?_ (by first | (simp; done) | (simp; omega)) _) | (refine range_drewN ?_ _) | (refine range_far ?_ (by first | (simp; done) | (simp; omega)) _) | assumption | (refine range_below ?_ (by assumption) (by first | (simp; done) | (simp; omega))))) Try.underlying23 rfl (by kernel_rfl)) rfl ⟨rfl, ?_⟩; exact (by with_reducible repeat (first | exact Below.refl _ _ | apply kalloc | apply kept_drewN | (refine kset ?_ (by first | (simp; done) | (simp; omega)) _) | assumption | (refine bthru (by assumption) ?_)))
        · have q1 : decide (m < 1) = false := by simp; omega
          have q2 : decide (3 < m) = true := by simp; omega
          go_enter Try.func8, Try.ntmps8
          go_wp2_with fail
          refine (refNfresh_any _ _ _).mono ?_; rintro e w1 ⟨rfl, hb⟩; obtain ⟨hc, hf, hz⟩ := bcall hb; try simp only [World.size_alloc, World.heap_drewN] at hz
          rw [if_pos h, h]
          have z0 : (w.heap.size) < w1.heap.size := (by omega); have rr : w1.rangeAt (w.heap.size) 0 [.int .i64 i0, .int .i64 m, .int .i64 c, .int .i64 p] := (by with_reducible repeat (first | exact range_new_at _ _ _ (by first | (simp; done) | (simp; omega)) | apply range_put | (with_unfolding_all rfl) | (refine range_alloc ?_ (by first | (simp; done) | (simp; omega)) _) | (refine range_drewN ?_ _) | (refine range_far ?_ (by first | (simp; done) | (simp; omega)) _) | assumption | (refine range_below ?_ (by assumption) (by first | (simp; done) | (simp; omega))))); have k0 := range_cell rr 0 rfl; have k1 := range_cell rr 1 rfl; have k2 := range_cell rr 2 rfl; have k3 := range_cell rr 3 rfl
          have z9 : (w.heap.size + 1) < w1.heap.size := (by omega); have rw4 : w1.rangeAt (w.heap.size + 1) 0 [.int .i64 0, .int .i64 0, .int .i64 0, .int .i64 0] := (by with_reducible repeat (first | exact range_new_at _ _ _ (by first | (simp; done) | (simp; omega)) | apply range_put | (with_unfolding_all rfl) | (refine range_alloc ?_ (by first | (simp; done) | (simp; omega)) _) | (refine range_drewN ?_ _) | (refine range_far ?_ (by first | (simp; done) | (simp; omega)) _) | assumption | (refine range_below ?_ (by assumption) (by first | (simp; done) | (simp; omega))))); have v0 := range_cell rw4 0 rfl; have v1 := range_cell rw4 1 rfl; have v2 := range_cell rw4 2 rfl; have v3 := range_cell rw4 3 rfl; have g0 := hf (w.heap.size + 1) 0 (by first | (simp; done) | (simp; omega) | omega); have g1 := hf (w.heap.size + 1) 1 (by first | (simp; done) | (simp; omega) | omega); have g2 := hf (w.heap.size + 1) 2 (by first | (simp; done) | (simp; omega) | omega); have g3 := hf (w.heap.size + 1) 3 (by first | (simp; done) | (simp; omega) | omega); simp [go_sem] at g0; simp [go_sem] at g1; simp [go_sem] at g2; simp [go_sem] at g3
          go_wp2_with fail
          refine (refClamp_any _ _ _ _).mono ?_; rintro e w' ⟨rfl, rfl⟩
          go_wp2
          refine bodyPost_ret (ret_cell_tmp Try.results8 (w.heap.size + 1) [.int .i64 i, .int .i64 1, .int .i64 (Tally.clamp c 0 1073741824), .int .i64 0] _ rfl (by with_reducible repeat (first | exact range_new_at _ _ _ (by first | (simp; done) | (simp; omega)) | apply range_put | (with_unfolding_all rfl) | (refine range_alloc ?_ (by first | (simp; done) | (simp; omega)) _) | (refine range_drewN ?_ _) | (refine range_far ?_ (by first | (simp; done) | (simp; omega)) _) | assumption | (refine range_below ?_ (by assumption) (by first | (simp; done) | (simp; omega))))) Try.underlying23 rfl (by kernel_rfl)) rfl ⟨rfl, ?_⟩; exact (by with_reducible repeat (first | exact Below.refl _ _ | apply kalloc | apply kept_drewN | (refine kset ?_ (by first | (simp; done) | (simp; omega)) _) | assumption | (refine bthru (by assumption) ?_)))
  · unfold Node.cleaned
    rw [if_neg h]
    have h1 : (Conf.err n i != 0) = true := by simp [h]
    go_enter Try.func8, Try.ntmps8
    go_wp2_with fail
    refine (refNfresh_any _ _ _).mono ?_; rintro e w1 ⟨rfl, hb⟩; obtain ⟨hc, hf, hz⟩ := bcall hb; try simp only [World.size_alloc, World.heap_drewN] at hz
    rw [if_neg h]
    have z9 : (w.heap.size + 1) < w1.heap.size := (by omega); have rw4 : w1.rangeAt (w.heap.size + 1) 0 [.int .i64 0, .int .i64 0, .int .i64 0, .int .i64 0] := (by with_reducible repeat (first | exact range_new_at _ _ _ (by first | (simp; done) | (simp; omega)) | apply range_put | (with_unfolding_all rfl) | (refine range_alloc ?_ (by first | (simp; done) | (simp; omega)) _) | (refine range_drewN ?_ _) | (refine range_far ?_ (by first | (simp; done) | (simp; omega)) _) | assumption | (refine range_below ?_ (by assumption) (by first | (simp; done) | (simp; omega))))); have v0 := range_cell rw4 0 rfl; have v1 := range_cell rw4 1 rfl; have v2 := range_cell rw4 2 rfl; have v3 := range_cell rw4 3 rfl; have g0 := hf (w.heap.size + 1) 0 (by first | (simp; done) | (simp; omega) | omega); have g1 := hf (w.heap.size + 1) 1 (by first | (simp; done) | (simp; omega) | omega); have g2 := hf (w.heap.size + 1) 2 (by first | (simp; done) | (simp; omega) | omega); have g3 := hf (w.heap.size + 1) 3 (by first | (simp; done) | (simp; omega) | omega); simp [go_sem] at g0; simp [go_sem] at g1; simp [go_sem] at g2; simp [go_sem] at g3
    go_wp2
    refine bodyPost_ret (ret_cell_tmp Try.results8 (w.heap.size + 1) [.int .i64 0, .int .i64 0, .int .i64 0, .int .i64 0] _ rfl (by with_reducible repeat (first | exact range_new_at _ _ _ (by first | (simp; done) | (simp; omega)) | apply range_put | (with_unfolding_all rfl) | (refine range_alloc ?_ (by first | (simp; done) | (simp; omega)) _) | (refine range_drewN ?_ _) | (refine range_far ?_ (by first | (simp; done) | (simp; omega)) _) | assumption | (refine range_below ?_ (by assumption) (by first | (simp; done) | (simp; omega))))) Try.underlying23 rfl (by kernel_rfl)) rfl ⟨rfl, ?_⟩; exact (by with_reducible repeat (first | exact Below.refl _ _ | apply kalloc | apply kept_drewN | (refine kset ?_ (by first | (simp; done) | (simp; omega)) _) | assumption | (refine bthru (by assumption) ?_)))
theorem Node.cleaned_flat (n i m c p : Int) : Node.cleaned n i m c p = #[.int .i64 (if Conf.err n i = 0 then i else 0), .int .i64 (if Conf.err n i = 0 then Node.mode m else 0), .int .i64 (if Conf.err n i = 0 then Node.count c else 0), .int .i64 (if Conf.err n i = 0 then Node.pos n m p else 0)] := by
  unfold Node.cleaned
  by_cases h : Conf.err n i = 0
  · simp only [if_pos h]
  · simp only [if_neg h]
end Go.Proofs.Ytaienpbkinbmnaa
