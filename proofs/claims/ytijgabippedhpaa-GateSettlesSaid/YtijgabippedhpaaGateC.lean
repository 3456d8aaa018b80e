
import Derived.Test.YtijgabippedhpaaRows
import Derived.Test.YtijgabippedhpaaGateB
namespace Go.Proofs.Ytijgabippedhpaa
set_option linter.unusedVariables false
set_option linter.unusedSimpArgs false
open Go.ChangeShapes Go.WideShapes Go.RowKit

theorem settle_keep {n : Int} {f : Nat → Int} (h : Vote.Ok n f) (h0 : 0 < f 10) (hv : ¬ 2 ≤ Vote.votes n f (f 11)) : Gate.settle n f = f := by
  funext j; unfold Gate.settle; rw [if_pos (Vote.ok_iff.2 h), if_pos h0, if_neg hv]
theorem settle_hold {n : Int} {f : Nat → Int} (h : Vote.Ok n f) (h0 : 0 < f 10) (hv : 2 ≤ Vote.votes n f (f 11)) (j : Nat) : Gate.settle n f j = if j = 10 then 2 * n else f j := by
  unfold Gate.settle; rw [if_pos (Vote.ok_iff.2 h), if_pos h0, if_pos hv]
theorem settle_none {n : Int} {f : Nat → Int} (h : Vote.Ok n f) (h0 : ¬ 0 < f 10) (hv : ¬ 2 ≤ Vote.bestVotes n f) : Gate.settle n f = f := by
  funext j; unfold Gate.settle; rw [if_pos (Vote.ok_iff.2 h), if_neg h0, if_neg hv]
theorem settle_take {n : Int} {f : Nat → Int} (h : Vote.Ok n f) (h0 : ¬ 0 < f 10) (hv : 2 ≤ Vote.bestVotes n f) (j : Nat) : Gate.settle n f j = if j = 10 then 2 * n else if j = 11 then (Vote.best n f : Nat) else f j := by
  unfold Gate.settle; rw [if_pos (Vote.ok_iff.2 h), if_neg h0, if_pos hv]
theorem settle_bad {n : Int} {f : Nat → Int} (h : Vote.ok n f = false) (j : Nat) : Gate.settle n f j = 0 := by unfold Gate.settle; rw [h]; rfl
/-- The slot with most votes is taken. -/
def takeF' (n : Int) (f : Nat → Int) (j : Nat) : Int := if j = 11 then (Vote.best n f : Nat) else f j
theorem take_ok {n : Int} {f : Nat → Int} (h : Vote.Ok n f) : Vote.Ok n (takeF' n f) := by
  have hb := Gate.best_lt h
  refine Gate.ok_set h (fun j hj => if_neg (by omega)) ?_ ?_
  · show 0 ≤ (if 10 = 11 then _ else _) ∧ (if 10 = 11 then _ else _) ≤ _
    rw [if_neg (by omega)]; exact h.2.2.2.2.1
  · show 0 ≤ (if 11 = 11 then _ else _) ∧ (if 11 = 11 then _ else _) ≤ _
    rw [if_pos rfl]; omega
theorem take_votes {n : Int} {f : Nat → Int} (h : Vote.Ok n f) : Vote.votes n (takeF' n f) (Vote.best n f : Nat) = Vote.bestVotes n f := by
  rw [Gate.votes_like (take_ok h) h (fun j hj => if_neg (by omega)), Gate.votes_best h]
set_option maxHeartbeats 4000000 in
theorem refGSettle_any (n : Int) (f : Nat → Int) (w : World) :
    Calls Try.prog 11 #[.int .i64 n, .agg #[.int .i64 (f 0), .int .i64 (f 1), .int .i64 (f 2), .int .i64 (f 3), .int .i64 (f 4), .int .i64 (f 5), .int .i64 (f 6), .int .i64 (f 7), .int .i64 (f 8), .int .i64 (f 9), .int .i64 (f 10), .int .i64 (f 11)]] w fun e w' => e = .returned (.tuple #[.agg #[.int .i64 (Gate.settle n f 0), .int .i64 (Gate.settle n f 1), .int .i64 (Gate.settle n f 2), .int .i64 (Gate.settle n f 3), .int .i64 (Gate.settle n f 4), .int .i64 (Gate.settle n f 5), .int .i64 (Gate.settle n f 6), .int .i64 (Gate.settle n f 7), .int .i64 (Gate.settle n f 8), .int .i64 (Gate.settle n f 9), .int .i64 (Gate.settle n f 10), .int .i64 (Gate.settle n f 11)], .int .i64 (Vote.tickErr n f)]) ∧ Below w.heap.size w w' := by
  by_cases h : Vote.ok n f = true
  · have hok := Vote.ok_iff.1 h
    have h38 := hok.1
    rw [tickErr_yes h]
    have ht : Conf.tm n 2 = 2 * n := Conf.tm_yes (Conf.right_spec.2 h38)
    have CB := Lib.hid (fun w => refBlock_val n _ ht w)
    have HR := Lib.hid h
    have h10 := hok.2.2.2.2.1
    have HX0 := Lib.hid ((Ints.box w f 24).alloc (.cells #[.int .i64 ((fun _ => (0 : Int)) 0), .int .i64 ((fun _ => (0 : Int)) 1), .int .i64 ((fun _ => (0 : Int)) 2), .int .i64 ((fun _ => (0 : Int)) 3), .int .i64 ((fun _ => (0 : Int)) 4), .int .i64 ((fun _ => (0 : Int)) 5), .int .i64 ((fun _ => (0 : Int)) 6), .int .i64 ((fun _ => (0 : Int)) 7), .int .i64 ((fun _ => (0 : Int)) 8), .int .i64 ((fun _ => (0 : Int)) 9), .int .i64 ((fun _ => (0 : Int)) 10), .int .i64 ((fun _ => (0 : Int)) 11)] 24))
    have HZ0 := Lib.hid (Ints.zeros (w.alloc (.cells #[.int .i64 (f 0), .int .i64 (f 1), .int .i64 (f 2), .int .i64 (f 3), .int .i64 (f 4), .int .i64 (f 5), .int .i64 (f 6), .int .i64 (f 7), .int .i64 (f 8), .int .i64 (f 9), .int .i64 (f 10), .int .i64 (f 11)] 24)) 24)
    by_cases h0 : 0 < f 10
    · have CV := Lib.hid (fun w => refVVotes_any n f (f 11) w)
      by_cases hv : 2 ≤ Vote.votes n f (f 11)
      · have HG := Lib.hid (fun j => settle_hold hok h0 hv j)
        generalize Gate.settle n f = g at *
        generalize Vote.votes n f (f 11) = x at *
        have hx : (2 : Int) ≤ x := by omega
        have e0 : (f 10 == 0) = false := by simp; omega
        clear h hok ht hv h10 h0
        go_enter Try.func11, Try.ntmps11
        go_wp2_with fail
        refine (refVRight_any n f _).mono ?_; rintro e w1 ⟨rfl, hb⟩; have hz := hb.size; (try simp only [World.size_alloc, World.heap_drewN, World.size_drew, World.size_setCell] at hz)
        rw [HR.out]
        have HB1 := Lib.hid (show Below w.heap.size w w1 from bel)
        have HX1 := Lib.hid (HX0.out.below hb)
        have HZ1 := Lib.hid (HZ0.out.below hb)
        rw [World.size_alloc] at HZ1
        clear hb HX0 HZ0
        have HX1_c0 := (HX1.out.2 0 (by decide)).1; have HX1_c1 := (HX1.out.2 1 (by decide)).1; have HX1_c2 := (HX1.out.2 2 (by decide)).1; have HX1_c3 := (HX1.out.2 3 (by decide)).1; have HX1_c4 := (HX1.out.2 4 (by decide)).1; have HX1_c5 := (HX1.out.2 5 (by decide)).1; have HX1_c6 := (HX1.out.2 6 (by decide)).1; have HX1_c7 := (HX1.out.2 7 (by decide)).1; have HX1_c8 := (HX1.out.2 8 (by decide)).1; have HX1_c9 := (HX1.out.2 9 (by decide)).1; have HX1_c10 := (HX1.out.2 10 (by decide)).1; have HX1_c11 := (HX1.out.2 11 (by decide)).1; have HX1_z := HX1.out.1
        go_wp2_with fail
        refine (CV.out _).mono ?_; rintro e w2 ⟨rfl, hb⟩; have hz := hb.size; (try simp only [World.size_alloc, World.heap_drewN, World.size_drew, World.size_setCell] at hz)
        have HB2 := Lib.hid (show Below w.heap.size w w2 from by have := HB1.out; exact bel)
        have HX2 := Lib.hid (HX1.out.below hb)
        have HZ2 := Lib.hid (HZ1.out.below hb)
        clear hb HX1 HZ1 HB1
        clear HX1_c0 HX1_c1 HX1_c2 HX1_c3 HX1_c4 HX1_c5 HX1_c6 HX1_c7 HX1_c8 HX1_c9 HX1_c10 HX1_c11 HX1_z
        obtain ⟨c10, f10⟩ := HX2.out.2 10 (by decide)
        have hz2 := HX2.out.1
        go_wp2_with fail
        refine (CB.out _).mono ?_; rintro e w' ⟨rfl, rfl⟩
        go_upto_region 10 with fail
        generalize hw3 : World.setCell _ _ _ = w3
        have HX3 := Lib.hid (show Ints w3 w.heap.size 12 g from by rw [← hw3]; exact HX2.out.set 10 (2 * n) (by omega) _ HG.out)
        have HZ3 := Lib.hid (show Ints w3 (w.heap.size + 1) 12 (fun _ => 0) from by rw [← hw3]; exact HZ2.out.other _ _ _ (by omega))
        have HB3 := Lib.hid (show Below w.heap.size w w3 from by have := HB2.out; rw [← hw3]; exact bel)
        clear hw3 HX2 HZ2 HB2 c10 f10 hz2
        have HX3_c0 := (HX3.out.2 0 (by decide)).1; have HX3_c1 := (HX3.out.2 1 (by decide)).1; have HX3_c2 := (HX3.out.2 2 (by decide)).1; have HX3_c3 := (HX3.out.2 3 (by decide)).1; have HX3_c4 := (HX3.out.2 4 (by decide)).1; have HX3_c5 := (HX3.out.2 5 (by decide)).1; have HX3_c6 := (HX3.out.2 6 (by decide)).1; have HX3_c7 := (HX3.out.2 7 (by decide)).1; have HX3_c8 := (HX3.out.2 8 (by decide)).1; have HX3_c9 := (HX3.out.2 9 (by decide)).1; have HX3_c10 := (HX3.out.2 10 (by decide)).1; have HX3_c11 := (HX3.out.2 11 (by decide)).1; have HX3_z := HX3.out.1
        have HZ3_r := HZ3.out.row12; have HZ3_c0 := (HZ3.out.2 0 (by decide)).1; have HZ3_f0 := (HZ3.out.2 0 (by decide)).2; have HZ3_c1 := (HZ3.out.2 1 (by decide)).1; have HZ3_f1 := (HZ3.out.2 1 (by decide)).2; have HZ3_c2 := (HZ3.out.2 2 (by decide)).1; have HZ3_f2 := (HZ3.out.2 2 (by decide)).2; have HZ3_c3 := (HZ3.out.2 3 (by decide)).1; have HZ3_f3 := (HZ3.out.2 3 (by decide)).2; have HZ3_c4 := (HZ3.out.2 4 (by decide)).1; have HZ3_f4 := (HZ3.out.2 4 (by decide)).2; have HZ3_c5 := (HZ3.out.2 5 (by decide)).1; have HZ3_f5 := (HZ3.out.2 5 (by decide)).2; have HZ3_c6 := (HZ3.out.2 6 (by decide)).1; have HZ3_f6 := (HZ3.out.2 6 (by decide)).2; have HZ3_c7 := (HZ3.out.2 7 (by decide)).1; have HZ3_f7 := (HZ3.out.2 7 (by decide)).2; have HZ3_c8 := (HZ3.out.2 8 (by decide)).1; have HZ3_f8 := (HZ3.out.2 8 (by decide)).2; have HZ3_c9 := (HZ3.out.2 9 (by decide)).1; have HZ3_f9 := (HZ3.out.2 9 (by decide)).2; have HZ3_c10 := (HZ3.out.2 10 (by decide)).1; have HZ3_f10 := (HZ3.out.2 10 (by decide)).2; have HZ3_c11 := (HZ3.out.2 11 (by decide)).1; have HZ3_f11 := (HZ3.out.2 11 (by decide)).2; have HZ3_z := HZ3.out.1
        have := HB3.out
        go_wp2
        refine bodyPost_ret (ret_cell_tmp Try.results11 (w.heap.size + 1) [.int .i64 ((g) 0), .int .i64 ((g) 1), .int .i64 ((g) 2), .int .i64 ((g) 3), .int .i64 ((g) 4), .int .i64 ((g) 5), .int .i64 ((g) 6), .int .i64 ((g) 7), .int .i64 ((g) 8), .int .i64 ((g) 9), .int .i64 ((g) 10), .int .i64 ((g) 11)] _ rfl rng Try.underlying24 rfl (by kernel_rfl)) rfl ⟨rfl, ?_⟩; exact bel
      · rw [settle_keep hok h0 hv]
        generalize Vote.votes n f (f 11) = x at *
        have hx : ¬ (2 : Int) ≤ x := by omega
        have e0 : (f 10 == 0) = false := by simp; omega
        clear h hok ht hv h10 h0
        go_enter Try.func11, Try.ntmps11
        go_wp2_with fail
        refine (refVRight_any n f _).mono ?_; rintro e w1 ⟨rfl, hb⟩; have hz := hb.size; (try simp only [World.size_alloc, World.heap_drewN, World.size_drew, World.size_setCell] at hz)
        rw [HR.out]
        have HB1 := Lib.hid (show Below w.heap.size w w1 from bel)
        have HX1 := Lib.hid (HX0.out.below hb)
        have HZ1 := Lib.hid (HZ0.out.below hb)
        rw [World.size_alloc] at HZ1
        clear hb HX0 HZ0
        have HX1_c0 := (HX1.out.2 0 (by decide)).1; have HX1_c1 := (HX1.out.2 1 (by decide)).1; have HX1_c2 := (HX1.out.2 2 (by decide)).1; have HX1_c3 := (HX1.out.2 3 (by decide)).1; have HX1_c4 := (HX1.out.2 4 (by decide)).1; have HX1_c5 := (HX1.out.2 5 (by decide)).1; have HX1_c6 := (HX1.out.2 6 (by decide)).1; have HX1_c7 := (HX1.out.2 7 (by decide)).1; have HX1_c8 := (HX1.out.2 8 (by decide)).1; have HX1_c9 := (HX1.out.2 9 (by decide)).1; have HX1_c10 := (HX1.out.2 10 (by decide)).1; have HX1_c11 := (HX1.out.2 11 (by decide)).1; have HX1_z := HX1.out.1
        go_wp2_with fail
        refine (CV.out _).mono ?_; rintro e w2 ⟨rfl, hb⟩; have hz := hb.size; (try simp only [World.size_alloc, World.heap_drewN, World.size_drew, World.size_setCell] at hz)
        have HB2 := Lib.hid (show Below w.heap.size w w2 from by have := HB1.out; exact bel)
        have HX2 := Lib.hid (HX1.out.below hb)
        have HZ2 := Lib.hid (HZ1.out.below hb)
        clear hb HX1 HZ1 HB1
        clear HX1_c0 HX1_c1 HX1_c2 HX1_c3 HX1_c4 HX1_c5 HX1_c6 HX1_c7 HX1_c8 HX1_c9 HX1_c10 HX1_c11 HX1_z
        have HX2_c0 := (HX2.out.2 0 (by decide)).1; have HX2_c1 := (HX2.out.2 1 (by decide)).1; have HX2_c2 := (HX2.out.2 2 (by decide)).1; have HX2_c3 := (HX2.out.2 3 (by decide)).1; have HX2_c4 := (HX2.out.2 4 (by decide)).1; have HX2_c5 := (HX2.out.2 5 (by decide)).1; have HX2_c6 := (HX2.out.2 6 (by decide)).1; have HX2_c7 := (HX2.out.2 7 (by decide)).1; have HX2_c8 := (HX2.out.2 8 (by decide)).1; have HX2_c9 := (HX2.out.2 9 (by decide)).1; have HX2_c10 := (HX2.out.2 10 (by decide)).1; have HX2_c11 := (HX2.out.2 11 (by decide)).1; have HX2_z := HX2.out.1
        have HZ2_r := HZ2.out.row12; have HZ2_c0 := (HZ2.out.2 0 (by decide)).1; have HZ2_f0 := (HZ2.out.2 0 (by decide)).2; have HZ2_c1 := (HZ2.out.2 1 (by decide)).1; have HZ2_f1 := (HZ2.out.2 1 (by decide)).2; have HZ2_c2 := (HZ2.out.2 2 (by decide)).1; have HZ2_f2 := (HZ2.out.2 2 (by decide)).2; have HZ2_c3 := (HZ2.out.2 3 (by decide)).1; have HZ2_f3 := (HZ2.out.2 3 (by decide)).2; have HZ2_c4 := (HZ2.out.2 4 (by decide)).1; have HZ2_f4 := (HZ2.out.2 4 (by decide)).2; have HZ2_c5 := (HZ2.out.2 5 (by decide)).1; have HZ2_f5 := (HZ2.out.2 5 (by decide)).2; have HZ2_c6 := (HZ2.out.2 6 (by decide)).1; have HZ2_f6 := (HZ2.out.2 6 (by decide)).2; have HZ2_c7 := (HZ2.out.2 7 (by decide)).1; have HZ2_f7 := (HZ2.out.2 7 (by decide)).2; have HZ2_c8 := (HZ2.out.2 8 (by decide)).1; have HZ2_f8 := (HZ2.out.2 8 (by decide)).2; have HZ2_c9 := (HZ2.out.2 9 (by decide)).1; have HZ2_f9 := (HZ2.out.2 9 (by decide)).2; have HZ2_c10 := (HZ2.out.2 10 (by decide)).1; have HZ2_f10 := (HZ2.out.2 10 (by decide)).2; have HZ2_c11 := (HZ2.out.2 11 (by decide)).1; have HZ2_f11 := (HZ2.out.2 11 (by decide)).2; have HZ2_z := HZ2.out.1
        have := HB2.out
        go_wp2
        refine bodyPost_ret (ret_cell_tmp Try.results11 (w.heap.size + 1) [.int .i64 ((f) 0), .int .i64 ((f) 1), .int .i64 ((f) 2), .int .i64 ((f) 3), .int .i64 ((f) 4), .int .i64 ((f) 5), .int .i64 ((f) 6), .int .i64 ((f) 7), .int .i64 ((f) 8), .int .i64 ((f) 9), .int .i64 ((f) 10), .int .i64 ((f) 11)] _ rfl rng Try.underlying24 rfl (by kernel_rfl)) rfl ⟨rfl, ?_⟩; exact bel
    · have e0 : f 10 = 0 := by omega
      have CB2 := Lib.hid (fun w => refVBest_any n f w)
      have CV := Lib.hid (fun w => refVVotes_any n (takeF' n f) (Vote.best n f : Nat) w)
      rw [take_votes hok] at CV
      have HE := Lib.hid e0
      by_cases hv : 2 ≤ Vote.bestVotes n f
      · have HG := Lib.hid (fun j => settle_take hok h0 hv j)
        have HT := Lib.hid (show ∀ j, takeF' n f j = if j = 11 then ((Vote.best n f : Nat) : Int) else f j from fun j => rfl)
        generalize Gate.settle n f = g at *
        generalize Vote.bestVotes n f = x at *
        generalize takeF' n f = q at *
        generalize Vote.best n f = be at *
        have hx : ¬ (x : Int) < 2 := by omega
        have hx2 : (2 : Int) ≤ x := by omega
        clear h hok ht hv h10 h0 e0
        go_enter Try.func11, Try.ntmps11
        go_wp2_with fail
        refine (refVRight_any n f _).mono ?_; rintro e w1 ⟨rfl, hb⟩; have hz := hb.size; (try simp only [World.size_alloc, World.heap_drewN, World.size_drew, World.size_setCell] at hz)
        rw [HR.out]
        have HB1 := Lib.hid (show Below w.heap.size w w1 from bel)
        have HX1 := Lib.hid (HX0.out.below hb)
        have HZ1 := Lib.hid (HZ0.out.below hb)
        rw [World.size_alloc] at HZ1
        clear hb HX0 HZ0
        have c10 := (HX1.out.2 10 (by decide)).1
        rw [HE.out] at c10
        go_upto_region 4 with fail
        clear c10
        have HX1_c0 := (HX1.out.2 0 (by decide)).1; have HX1_c1 := (HX1.out.2 1 (by decide)).1; have HX1_c2 := (HX1.out.2 2 (by decide)).1; have HX1_c3 := (HX1.out.2 3 (by decide)).1; have HX1_c4 := (HX1.out.2 4 (by decide)).1; have HX1_c5 := (HX1.out.2 5 (by decide)).1; have HX1_c6 := (HX1.out.2 6 (by decide)).1; have HX1_c7 := (HX1.out.2 7 (by decide)).1; have HX1_c8 := (HX1.out.2 8 (by decide)).1; have HX1_c9 := (HX1.out.2 9 (by decide)).1; have HX1_c10 := (HX1.out.2 10 (by decide)).1; have HX1_c11 := (HX1.out.2 11 (by decide)).1; have HX1_z := HX1.out.1
        go_wp2_with fail
        refine (CB2.out _).mono ?_; rintro e w2 ⟨rfl, hb⟩; have hz := hb.size; (try simp only [World.size_alloc, World.heap_drewN, World.size_drew, World.size_setCell] at hz)
        have HB2 := Lib.hid (show Below w.heap.size w w2 from by have := HB1.out; exact bel)
        have HX2 := Lib.hid (HX1.out.below hb)
        have HZ2 := Lib.hid (HZ1.out.below hb)
        clear hb HX1 HZ1 HB1
        clear HX1_c0 HX1_c1 HX1_c2 HX1_c3 HX1_c4 HX1_c5 HX1_c6 HX1_c7 HX1_c8 HX1_c9 HX1_c10 HX1_c11 HX1_z
        obtain ⟨c11, f11⟩ := HX2.out.2 11 (by decide)
        have hz2 := HX2.out.1
        go_upto_region 8 with fail
        generalize hw3 : World.setCell _ _ _ = w3
        have HX3 := Lib.hid (show Ints w3 w.heap.size 12 q from by rw [← hw3]; exact HX2.out.set 11 be (by omega) _ HT.out)
        have HZ3 := Lib.hid (show Ints w3 (w.heap.size + 1) 12 (fun _ => 0) from by rw [← hw3]; exact HZ2.out.other _ _ _ (by omega))
        have HB3 := Lib.hid (show Below w.heap.size w w3 from by have := HB2.out; rw [← hw3]; exact bel)
        have hq11 : Hid (q 11 = be) := HT.out 11
        clear hw3 HX2 HZ2 HB2 c11 f11 hz2
        have HX3_c0 := (HX3.out.2 0 (by decide)).1; have HX3_c1 := (HX3.out.2 1 (by decide)).1; have HX3_c2 := (HX3.out.2 2 (by decide)).1; have HX3_c3 := (HX3.out.2 3 (by decide)).1; have HX3_c4 := (HX3.out.2 4 (by decide)).1; have HX3_c5 := (HX3.out.2 5 (by decide)).1; have HX3_c6 := (HX3.out.2 6 (by decide)).1; have HX3_c7 := (HX3.out.2 7 (by decide)).1; have HX3_c8 := (HX3.out.2 8 (by decide)).1; have HX3_c9 := (HX3.out.2 9 (by decide)).1; have HX3_c10 := (HX3.out.2 10 (by decide)).1; have HX3_c11 := (HX3.out.2 11 (by decide)).1; have HX3_z := HX3.out.1
        go_wp2_with fail
        rw [hq11.out]
        simp only [hq11.out] at CV
        refine (CV.out _).mono ?_; rintro e w4 ⟨rfl, hb⟩; have hz := hb.size; (try simp only [World.size_alloc, World.heap_drewN, World.size_drew, World.size_setCell] at hz)
        have HB4 := Lib.hid (show Below w.heap.size w w4 from by have := HB3.out; exact bel)
        have HX4 := Lib.hid (HX3.out.below hb)
        have HZ4 := Lib.hid (HZ3.out.below hb)
        clear hb HX3 HZ3 HB3
        clear HX3_c0 HX3_c1 HX3_c2 HX3_c3 HX3_c4 HX3_c5 HX3_c6 HX3_c7 HX3_c8 HX3_c9 HX3_c10 HX3_c11 HX3_z
        obtain ⟨c10, f10⟩ := HX4.out.2 10 (by decide)
        have hz4 := HX4.out.1
        go_wp2_with fail
        refine (CB.out _).mono ?_; rintro e w' ⟨rfl, rfl⟩
        go_upto_region 10 with fail
        generalize hw5 : World.setCell _ _ _ = w5
        have HX5 := Lib.hid (show Ints w5 w.heap.size 12 g from by
          rw [← hw5]
          refine HX4.out.set 10 (2 * n) (by omega) _ (fun j => ?_)
          rw [HG.out j, HT.out j])
        have HZ5 := Lib.hid (show Ints w5 (w.heap.size + 1) 12 (fun _ => 0) from by rw [← hw5]; exact HZ4.out.other _ _ _ (by omega))
        have HB5 := Lib.hid (show Below w.heap.size w w5 from by have := HB4.out; rw [← hw5]; exact bel)
        clear hw5 HX4 HZ4 HB4 c10 f10 hz4
        have HX5_c0 := (HX5.out.2 0 (by decide)).1; have HX5_c1 := (HX5.out.2 1 (by decide)).1; have HX5_c2 := (HX5.out.2 2 (by decide)).1; have HX5_c3 := (HX5.out.2 3 (by decide)).1; have HX5_c4 := (HX5.out.2 4 (by decide)).1; have HX5_c5 := (HX5.out.2 5 (by decide)).1; have HX5_c6 := (HX5.out.2 6 (by decide)).1; have HX5_c7 := (HX5.out.2 7 (by decide)).1; have HX5_c8 := (HX5.out.2 8 (by decide)).1; have HX5_c9 := (HX5.out.2 9 (by decide)).1; have HX5_c10 := (HX5.out.2 10 (by decide)).1; have HX5_c11 := (HX5.out.2 11 (by decide)).1; have HX5_z := HX5.out.1
        have HZ5_r := HZ5.out.row12; have HZ5_c0 := (HZ5.out.2 0 (by decide)).1; have HZ5_f0 := (HZ5.out.2 0 (by decide)).2; have HZ5_c1 := (HZ5.out.2 1 (by decide)).1; have HZ5_f1 := (HZ5.out.2 1 (by decide)).2; have HZ5_c2 := (HZ5.out.2 2 (by decide)).1; have HZ5_f2 := (HZ5.out.2 2 (by decide)).2; have HZ5_c3 := (HZ5.out.2 3 (by decide)).1; have HZ5_f3 := (HZ5.out.2 3 (by decide)).2; have HZ5_c4 := (HZ5.out.2 4 (by decide)).1; have HZ5_f4 := (HZ5.out.2 4 (by decide)).2; have HZ5_c5 := (HZ5.out.2 5 (by decide)).1; have HZ5_f5 := (HZ5.out.2 5 (by decide)).2; have HZ5_c6 := (HZ5.out.2 6 (by decide)).1; have HZ5_f6 := (HZ5.out.2 6 (by decide)).2; have HZ5_c7 := (HZ5.out.2 7 (by decide)).1; have HZ5_f7 := (HZ5.out.2 7 (by decide)).2; have HZ5_c8 := (HZ5.out.2 8 (by decide)).1; have HZ5_f8 := (HZ5.out.2 8 (by decide)).2; have HZ5_c9 := (HZ5.out.2 9 (by decide)).1; have HZ5_f9 := (HZ5.out.2 9 (by decide)).2; have HZ5_c10 := (HZ5.out.2 10 (by decide)).1; have HZ5_f10 := (HZ5.out.2 10 (by decide)).2; have HZ5_c11 := (HZ5.out.2 11 (by decide)).1; have HZ5_f11 := (HZ5.out.2 11 (by decide)).2; have HZ5_z := HZ5.out.1
        have := HB5.out
        go_wp2
        refine bodyPost_ret (ret_cell_tmp Try.results11 (w.heap.size + 1) [.int .i64 ((g) 0), .int .i64 ((g) 1), .int .i64 ((g) 2), .int .i64 ((g) 3), .int .i64 ((g) 4), .int .i64 ((g) 5), .int .i64 ((g) 6), .int .i64 ((g) 7), .int .i64 ((g) 8), .int .i64 ((g) 9), .int .i64 ((g) 10), .int .i64 ((g) 11)] _ rfl rng Try.underlying24 rfl (by kernel_rfl)) rfl ⟨rfl, ?_⟩; exact bel
      · rw [settle_none hok h0 hv]
        generalize Vote.bestVotes n f = x at *
        generalize Vote.best n f = be at *
        have hx : (x : Int) < 2 := by omega
        clear h hok ht hv h10 h0 e0 CV
        go_enter Try.func11, Try.ntmps11
        go_wp2_with fail
        refine (refVRight_any n f _).mono ?_; rintro e w1 ⟨rfl, hb⟩; have hz := hb.size; (try simp only [World.size_alloc, World.heap_drewN, World.size_drew, World.size_setCell] at hz)
        rw [HR.out]
        have HB1 := Lib.hid (show Below w.heap.size w w1 from bel)
        have HX1 := Lib.hid (HX0.out.below hb)
        have HZ1 := Lib.hid (HZ0.out.below hb)
        rw [World.size_alloc] at HZ1
        clear hb HX0 HZ0
        have c10 := (HX1.out.2 10 (by decide)).1
        rw [HE.out] at c10
        go_upto_region 4 with fail
        clear c10
        have HX1_c0 := (HX1.out.2 0 (by decide)).1; have HX1_c1 := (HX1.out.2 1 (by decide)).1; have HX1_c2 := (HX1.out.2 2 (by decide)).1; have HX1_c3 := (HX1.out.2 3 (by decide)).1; have HX1_c4 := (HX1.out.2 4 (by decide)).1; have HX1_c5 := (HX1.out.2 5 (by decide)).1; have HX1_c6 := (HX1.out.2 6 (by decide)).1; have HX1_c7 := (HX1.out.2 7 (by decide)).1; have HX1_c8 := (HX1.out.2 8 (by decide)).1; have HX1_c9 := (HX1.out.2 9 (by decide)).1; have HX1_c10 := (HX1.out.2 10 (by decide)).1; have HX1_c11 := (HX1.out.2 11 (by decide)).1; have HX1_z := HX1.out.1
        go_wp2_with fail
        refine (CB2.out _).mono ?_; rintro e w2 ⟨rfl, hb⟩; have hz := hb.size; (try simp only [World.size_alloc, World.heap_drewN, World.size_drew, World.size_setCell] at hz)
        have HB2 := Lib.hid (show Below w.heap.size w w2 from by have := HB1.out; exact bel)
        have HX2 := Lib.hid (HX1.out.below hb)
        have HZ2 := Lib.hid (HZ1.out.below hb)
        clear hb HX1 HZ1 HB1
        clear HX1_c0 HX1_c1 HX1_c2 HX1_c3 HX1_c4 HX1_c5 HX1_c6 HX1_c7 HX1_c8 HX1_c9 HX1_c10 HX1_c11 HX1_z
        have HX2_c0 := (HX2.out.2 0 (by decide)).1; have HX2_c1 := (HX2.out.2 1 (by decide)).1; have HX2_c2 := (HX2.out.2 2 (by decide)).1; have HX2_c3 := (HX2.out.2 3 (by decide)).1; have HX2_c4 := (HX2.out.2 4 (by decide)).1; have HX2_c5 := (HX2.out.2 5 (by decide)).1; have HX2_c6 := (HX2.out.2 6 (by decide)).1; have HX2_c7 := (HX2.out.2 7 (by decide)).1; have HX2_c8 := (HX2.out.2 8 (by decide)).1; have HX2_c9 := (HX2.out.2 9 (by decide)).1; have HX2_c10 := (HX2.out.2 10 (by decide)).1; have HX2_c11 := (HX2.out.2 11 (by decide)).1; have HX2_z := HX2.out.1
        have HZ2_r := HZ2.out.row12; have HZ2_c0 := (HZ2.out.2 0 (by decide)).1; have HZ2_f0 := (HZ2.out.2 0 (by decide)).2; have HZ2_c1 := (HZ2.out.2 1 (by decide)).1; have HZ2_f1 := (HZ2.out.2 1 (by decide)).2; have HZ2_c2 := (HZ2.out.2 2 (by decide)).1; have HZ2_f2 := (HZ2.out.2 2 (by decide)).2; have HZ2_c3 := (HZ2.out.2 3 (by decide)).1; have HZ2_f3 := (HZ2.out.2 3 (by decide)).2; have HZ2_c4 := (HZ2.out.2 4 (by decide)).1; have HZ2_f4 := (HZ2.out.2 4 (by decide)).2; have HZ2_c5 := (HZ2.out.2 5 (by decide)).1; have HZ2_f5 := (HZ2.out.2 5 (by decide)).2; have HZ2_c6 := (HZ2.out.2 6 (by decide)).1; have HZ2_f6 := (HZ2.out.2 6 (by decide)).2; have HZ2_c7 := (HZ2.out.2 7 (by decide)).1; have HZ2_f7 := (HZ2.out.2 7 (by decide)).2; have HZ2_c8 := (HZ2.out.2 8 (by decide)).1; have HZ2_f8 := (HZ2.out.2 8 (by decide)).2; have HZ2_c9 := (HZ2.out.2 9 (by decide)).1; have HZ2_f9 := (HZ2.out.2 9 (by decide)).2; have HZ2_c10 := (HZ2.out.2 10 (by decide)).1; have HZ2_f10 := (HZ2.out.2 10 (by decide)).2; have HZ2_c11 := (HZ2.out.2 11 (by decide)).1; have HZ2_f11 := (HZ2.out.2 11 (by decide)).2; have HZ2_z := HZ2.out.1
        have := HB2.out
        go_wp2
        refine bodyPost_ret (ret_cell_tmp Try.results11 (w.heap.size + 1) [.int .i64 ((f) 0), .int .i64 ((f) 1), .int .i64 ((f) 2), .int .i64 ((f) 3), .int .i64 ((f) 4), .int .i64 ((f) 5), .int .i64 ((f) 6), .int .i64 ((f) 7), .int .i64 ((f) 8), .int .i64 ((f) 9), .int .i64 ((f) 10), .int .i64 ((f) 11)] _ rfl rng Try.underlying24 rfl (by kernel_rfl)) rfl ⟨rfl, ?_⟩; exact bel
  · have h := Bool.eq_false_iff.2 h
    rw [tickErr_no h]
    simp only [settle_bad h]
    go_enter Try.func11, Try.ntmps11
    go_wp2_with fail
    refine (refVRight_any n f _).mono ?_
    rintro e w1 ⟨rfl, hb⟩
    rw [h]
    have hz := hb.size
    (try simp only [World.size_alloc, World.heap_drewN, World.size_drew, World.size_setCell] at hz)
    have HB1 := Lib.hid (show Below w.heap.size w w1 from bel)
    have HZ := Lib.hid ((Ints.zeros (w.alloc (.cells #[.int .i64 (f 0), .int .i64 (f 1), .int .i64 (f 2), .int .i64 (f 3), .int .i64 (f 4), .int .i64 (f 5), .int .i64 (f 6), .int .i64 (f 7), .int .i64 (f 8), .int .i64 (f 9), .int .i64 (f 10), .int .i64 (f 11)] 24)) 24).below hb)
    rw [World.size_alloc] at HZ
    clear hb
    have HZ_r := HZ.out.row12; have HZ_c0 := (HZ.out.2 0 (by decide)).1; have HZ_f0 := (HZ.out.2 0 (by decide)).2; have HZ_c1 := (HZ.out.2 1 (by decide)).1; have HZ_f1 := (HZ.out.2 1 (by decide)).2; have HZ_c2 := (HZ.out.2 2 (by decide)).1; have HZ_f2 := (HZ.out.2 2 (by decide)).2; have HZ_c3 := (HZ.out.2 3 (by decide)).1; have HZ_f3 := (HZ.out.2 3 (by decide)).2; have HZ_c4 := (HZ.out.2 4 (by decide)).1; have HZ_f4 := (HZ.out.2 4 (by decide)).2; have HZ_c5 := (HZ.out.2 5 (by decide)).1; have HZ_f5 := (HZ.out.2 5 (by decide)).2; have HZ_c6 := (HZ.out.2 6 (by decide)).1; have HZ_f6 := (HZ.out.2 6 (by decide)).2; have HZ_c7 := (HZ.out.2 7 (by decide)).1; have HZ_f7 := (HZ.out.2 7 (by decide)).2; have HZ_c8 := (HZ.out.2 8 (by decide)).1; have HZ_f8 := (HZ.out.2 8 (by decide)).2; have HZ_c9 := (HZ.out.2 9 (by decide)).1; have HZ_f9 := (HZ.out.2 9 (by decide)).2; have HZ_c10 := (HZ.out.2 10 (by decide)).1; have HZ_f10 := (HZ.out.2 10 (by decide)).2; have HZ_c11 := (HZ.out.2 11 (by decide)).1; have HZ_f11 := (HZ.out.2 11 (by decide)).2; have HZ_z := HZ.out.1
    have := HB1.out
    go_wp2
    refine bodyPost_ret (ret_cell_tmp Try.results11 (w.heap.size + 1) [.int .i64 ((fun _ => 0) 0), .int .i64 ((fun _ => 0) 1), .int .i64 ((fun _ => 0) 2), .int .i64 ((fun _ => 0) 3), .int .i64 ((fun _ => 0) 4), .int .i64 ((fun _ => 0) 5), .int .i64 ((fun _ => 0) 6), .int .i64 ((fun _ => 0) 7), .int .i64 ((fun _ => 0) 8), .int .i64 ((fun _ => 0) 9), .int .i64 ((fun _ => 0) 10), .int .i64 ((fun _ => 0) 11)] _ rfl rng Try.underlying24 rfl (by kernel_rfl)) rfl ⟨rfl, ?_⟩; exact bel
end Go.Proofs.Ytijgabippedhpaa
