
import Derived.Test.YtijgabippedhpaaRows
import Derived.Test.YtijgabippedhpaaGateS
import Derived.Test.YtijgabippedhpaaGateC
namespace Go.Proofs.Ytijgabippedhpaa
set_option linter.unusedVariables false
set_option linter.unusedSimpArgs false
open Go.ChangeShapes Go.WideShapes Go.RowKit

/-! The program's Settle. -/
set_option maxHeartbeats 4000000 in
theorem gSettle_any (n : Int) (f : Nat → Int) (w : World) (hf : Bd12 f) :
    Calls Try.prog 10 #[.int .i64 n, .agg #[.int .i64 (f 0), .int .i64 (f 1), .int .i64 (f 2), .int .i64 (f 3), .int .i64 (f 4), .int .i64 (f 5), .int .i64 (f 6), .int .i64 (f 7), .int .i64 (f 8), .int .i64 (f 9), .int .i64 (f 10), .int .i64 (f 11)]] w fun e w' => e = .returned (.tuple #[.agg #[.int .i64 (Gate.settle n f 0), .int .i64 (Gate.settle n f 1), .int .i64 (Gate.settle n f 2), .int .i64 (Gate.settle n f 3), .int .i64 (Gate.settle n f 4), .int .i64 (Gate.settle n f 5), .int .i64 (Gate.settle n f 6), .int .i64 (Gate.settle n f 7), .int .i64 (Gate.settle n f 8), .int .i64 (Gate.settle n f 9), .int .i64 (Gate.settle n f 10), .int .i64 (Gate.settle n f 11)], .int .i64 (Vote.tickErr n f)]) ∧ Below w.heap.size w w' := by
  have CR := Lib.hid (fun w => vRight_any n f w hf)
  have CV := Lib.hid (fun w => vVotes_any n f (f 11) w hf)
  have CT := Lib.hid (fun w => vBest_any n f w hf)
  by_cases h : Vote.ok n f = true
  · have hok := Vote.ok_iff.1 h
    have h38 := hok.1
    rw [tickErr_yes h]
    rw [h] at CR
    have CB := Lib.hid (fun w => block_val n _ (Conf.tm_yes (Conf.right_spec.2 h38)) w)
    have h10 := hok.2.2.2.2.1
    have HX0 := Lib.hid ((Ints.box w f 24).alloc (.cells #[.int .i64 ((fun _ => (0 : Int)) 0), .int .i64 ((fun _ => (0 : Int)) 1), .int .i64 ((fun _ => (0 : Int)) 2), .int .i64 ((fun _ => (0 : Int)) 3), .int .i64 ((fun _ => (0 : Int)) 4), .int .i64 ((fun _ => (0 : Int)) 5), .int .i64 ((fun _ => (0 : Int)) 6), .int .i64 ((fun _ => (0 : Int)) 7), .int .i64 ((fun _ => (0 : Int)) 8), .int .i64 ((fun _ => (0 : Int)) 9), .int .i64 ((fun _ => (0 : Int)) 10), .int .i64 ((fun _ => (0 : Int)) 11)] 24))
    have HZ0 := Lib.hid (Ints.zeros (w.alloc (.cells #[.int .i64 (f 0), .int .i64 (f 1), .int .i64 (f 2), .int .i64 (f 3), .int .i64 (f 4), .int .i64 (f 5), .int .i64 (f 6), .int .i64 (f 7), .int .i64 (f 8), .int .i64 (f 9), .int .i64 (f 10), .int .i64 (f 11)] 24)) 24)
    have HGH := Lib.hid (fun h0 hv j => settle_hold hok h0 hv j)
    have HGK := Lib.hid (fun h0 hv => settle_keep hok h0 hv)
    have HGT := Lib.hid (fun h0 hv j => settle_take hok h0 hv j)
    have HGN := Lib.hid (fun h0 hv => settle_none hok h0 hv)
    have hP : Hid (0 < f 10 ∨ f 10 = 0) := by show 0 < f 10 ∨ f 10 = 0; omega
    generalize Gate.settle n f = g at *
    generalize Vote.votes n f (f 11) = x at *
    generalize Vote.bestVotes n f = y at *
    generalize Vote.best n f = be at *
    have hX : ∃ X : Int, (x : Int) = X := ⟨_, rfl⟩
    obtain ⟨X, hX⟩ := hX
    have hY : ∃ Y : Int, (y : Int) = Y := ⟨_, rfl⟩
    obtain ⟨Y, hY⟩ := hY
    simp only [hX] at CV
    simp only [hY] at CT
    have EX := Lib.hid hX
    have EY := Lib.hid hY
    clear h hok h10 hf hX hY
    go_enter Try.func10, Try.ntmps10
    go_wp2_with fail
    refine (CR.out _).mono ?_; rintro e w1 ⟨rfl, hb⟩; have hz := hb.size; (try simp only [World.size_alloc, World.heap_drewN, World.size_drew, World.size_setCell] at hz)
    have HB1 := Lib.hid (show Below w.heap.size w w1 from bel)
    have HX1 := Lib.hid (HX0.out.below hb)
    have HZ1 := Lib.hid (HZ0.out.below hb)
    rw [World.size_alloc] at HZ1
    clear hb HX0 HZ0
    go_upto_region 3 with fail
    refine region_below (by kernel_rfl) (by kernel_rfl) ?_; intro wR HW
    have HBR := Lib.hid (show Below w.heap.size w wR from by rw [← HW.out]; exact HB1.out)
    have HXR := Lib.hid (show Ints wR w.heap.size 12 f from by rw [← HW.out]; exact HX1.out)
    have HZR := Lib.hid (show Ints wR (w.heap.size + 1) 12 (fun _ => 0) from by rw [← HW.out]; exact HZ1.out)
    clear HW HB1 HX1 HZ1
    have HXR_c0 := (HXR.out.2 0 (by decide)).1; have HXR_c1 := (HXR.out.2 1 (by decide)).1; have HXR_c2 := (HXR.out.2 2 (by decide)).1; have HXR_c3 := (HXR.out.2 3 (by decide)).1; have HXR_c4 := (HXR.out.2 4 (by decide)).1; have HXR_c5 := (HXR.out.2 5 (by decide)).1; have HXR_c6 := (HXR.out.2 6 (by decide)).1; have HXR_c7 := (HXR.out.2 7 (by decide)).1; have HXR_c8 := (HXR.out.2 8 (by decide)).1; have HXR_c9 := (HXR.out.2 9 (by decide)).1; have HXR_c10 := (HXR.out.2 10 (by decide)).1; have HXR_c11 := (HXR.out.2 11 (by decide)).1; have HXR_z := HXR.out.1
    replace HXR_c0 := cell_regrown HXR_c0; replace HXR_c1 := cell_regrown HXR_c1; replace HXR_c2 := cell_regrown HXR_c2; replace HXR_c3 := cell_regrown HXR_c3; replace HXR_c4 := cell_regrown HXR_c4; replace HXR_c5 := cell_regrown HXR_c5; replace HXR_c6 := cell_regrown HXR_c6; replace HXR_c7 := cell_regrown HXR_c7; replace HXR_c8 := cell_regrown HXR_c8; replace HXR_c9 := cell_regrown HXR_c9; replace HXR_c10 := cell_regrown HXR_c10; replace HXR_c11 := cell_regrown HXR_c11
    (repeat (first | go_big_quiet_step (with_reducible exact Calls.regrown_of (CV.out _)) | quiet_step (with_reducible exact Calls.regrown_of (CV.out _)))); refine wpQuiet_nil ?_; intro w2 hb2
    have HB2 := Lib.hid (show Below w.heap.size w w2 from by have := HBR.out; exact bthru hb2 this)
    have HX2 := Lib.hid (HXR.out.below hb2)
    have HZ2 := Lib.hid (HZR.out.below hb2)
    clear hb2 HBR HZR
    clear HXR_c0 HXR_c1 HXR_c2 HXR_c3 HXR_c4 HXR_c5 HXR_c6 HXR_c7 HXR_c8 HXR_c9 HXR_c10 HXR_c11 HXR_z
    clear HXR
    rcases hP.out with h0 | h0
    · have e0 : (f 10 == 0) = false := by simp; omega
      have c10 := (HX2.out.2 10 (by decide)).1
      have zz := HX2.out.1
      by_cases hx : 2 ≤ X
      · have HG := Lib.hid (fun j => HGH.out h0 (by have := EX.out; omega) j)
        clear h0
        go_wp2_with fail
        refine (CB.out _).mono ?_; rintro e w3' ⟨rfl, hb⟩; have hz := hb.size; (try simp only [World.size_alloc, World.heap_drewN, World.size_drew, World.size_setCell] at hz)
        replace HB2 := Lib.hid (show Below w.heap.size w w3' from by have := HB2.out; exact bel)
        replace HX2 := Lib.hid (HX2.out.below hb)
        replace HZ2 := Lib.hid (HZ2.out.below hb)
        clear hb c10 zz
        obtain ⟨c11, f11⟩ := HX2.out.2 11 (by decide)
        obtain ⟨c10, f10⟩ := HX2.out.2 10 (by decide)
        have zz := HX2.out.1
        go_upto_region 8 with fail
        generalize hw3 : World.setCell _ _ _ = w3
        have HX3 := Lib.hid (show Ints w3 w.heap.size 12 g from by
          rw [← hw3]
          refine (HX2.out.set 11 (f 11) (by omega) f (fun j => ?_)).set 10 (2 * n) (by omega) _ HG.out
          by_cases e : j = 11
          · subst e; rw [if_pos rfl]
          · rw [if_neg e])
        have HZ3 := Lib.hid (show Ints w3 (w.heap.size + 1) 12 (fun _ => 0) from by rw [← hw3]; exact (HZ2.out.other _ _ _ (by omega)).other _ _ _ (by omega))
        have HB3 := Lib.hid (show Below w.heap.size w w3 from by have := HB2.out; rw [← hw3]; exact bel)
        clear hw3 HX2 HZ2 HB2 c10 f10 c11 f11 zz
        have HX3_c0 := (HX3.out.2 0 (by decide)).1; have HX3_c1 := (HX3.out.2 1 (by decide)).1; have HX3_c2 := (HX3.out.2 2 (by decide)).1; have HX3_c3 := (HX3.out.2 3 (by decide)).1; have HX3_c4 := (HX3.out.2 4 (by decide)).1; have HX3_c5 := (HX3.out.2 5 (by decide)).1; have HX3_c6 := (HX3.out.2 6 (by decide)).1; have HX3_c7 := (HX3.out.2 7 (by decide)).1; have HX3_c8 := (HX3.out.2 8 (by decide)).1; have HX3_c9 := (HX3.out.2 9 (by decide)).1; have HX3_c10 := (HX3.out.2 10 (by decide)).1; have HX3_c11 := (HX3.out.2 11 (by decide)).1; have HX3_z := HX3.out.1
        have HZ3_r := HZ3.out.row12; have HZ3_c0 := (HZ3.out.2 0 (by decide)).1; have HZ3_f0 := (HZ3.out.2 0 (by decide)).2; have HZ3_c1 := (HZ3.out.2 1 (by decide)).1; have HZ3_f1 := (HZ3.out.2 1 (by decide)).2; have HZ3_c2 := (HZ3.out.2 2 (by decide)).1; have HZ3_f2 := (HZ3.out.2 2 (by decide)).2; have HZ3_c3 := (HZ3.out.2 3 (by decide)).1; have HZ3_f3 := (HZ3.out.2 3 (by decide)).2; have HZ3_c4 := (HZ3.out.2 4 (by decide)).1; have HZ3_f4 := (HZ3.out.2 4 (by decide)).2; have HZ3_c5 := (HZ3.out.2 5 (by decide)).1; have HZ3_f5 := (HZ3.out.2 5 (by decide)).2; have HZ3_c6 := (HZ3.out.2 6 (by decide)).1; have HZ3_f6 := (HZ3.out.2 6 (by decide)).2; have HZ3_c7 := (HZ3.out.2 7 (by decide)).1; have HZ3_f7 := (HZ3.out.2 7 (by decide)).2; have HZ3_c8 := (HZ3.out.2 8 (by decide)).1; have HZ3_f8 := (HZ3.out.2 8 (by decide)).2; have HZ3_c9 := (HZ3.out.2 9 (by decide)).1; have HZ3_f9 := (HZ3.out.2 9 (by decide)).2; have HZ3_c10 := (HZ3.out.2 10 (by decide)).1; have HZ3_f10 := (HZ3.out.2 10 (by decide)).2; have HZ3_c11 := (HZ3.out.2 11 (by decide)).1; have HZ3_f11 := (HZ3.out.2 11 (by decide)).2; have HZ3_z := HZ3.out.1
        have := HB3.out
        go_wp2
        generalize hwf : World.setCell _ _ _ = wf; have r1 : Ints wf (w.heap.size + 1) 12 (g) := (by rw [← hwf]; exact HZ3.out.set12 (g)); have r3 : Below w.heap.size w wf := (by rw [← hwf]; exact bel); refine bodyPost_ret (ret_cell_tmp Try.results10 (w.heap.size + 1) (hubL (g)) _ rfl (hubL_row r1) Try.underlying24 rfl (by kernel_rfl)) rfl ⟨rfl, r3⟩
      · go_upto_region 8 with fail
        replace HX2 := Lib.hid (HX2.out.like (fun j _ => (congrFun (HGK.out (by omega) (by have := EX.out; omega)) j).symm))
        clear c10
        have HX2_c0 := (HX2.out.2 0 (by decide)).1; have HX2_c1 := (HX2.out.2 1 (by decide)).1; have HX2_c2 := (HX2.out.2 2 (by decide)).1; have HX2_c3 := (HX2.out.2 3 (by decide)).1; have HX2_c4 := (HX2.out.2 4 (by decide)).1; have HX2_c5 := (HX2.out.2 5 (by decide)).1; have HX2_c6 := (HX2.out.2 6 (by decide)).1; have HX2_c7 := (HX2.out.2 7 (by decide)).1; have HX2_c8 := (HX2.out.2 8 (by decide)).1; have HX2_c9 := (HX2.out.2 9 (by decide)).1; have HX2_c10 := (HX2.out.2 10 (by decide)).1; have HX2_c11 := (HX2.out.2 11 (by decide)).1; have HX2_z := HX2.out.1
        have HZ2_r := HZ2.out.row12; have HZ2_c0 := (HZ2.out.2 0 (by decide)).1; have HZ2_f0 := (HZ2.out.2 0 (by decide)).2; have HZ2_c1 := (HZ2.out.2 1 (by decide)).1; have HZ2_f1 := (HZ2.out.2 1 (by decide)).2; have HZ2_c2 := (HZ2.out.2 2 (by decide)).1; have HZ2_f2 := (HZ2.out.2 2 (by decide)).2; have HZ2_c3 := (HZ2.out.2 3 (by decide)).1; have HZ2_f3 := (HZ2.out.2 3 (by decide)).2; have HZ2_c4 := (HZ2.out.2 4 (by decide)).1; have HZ2_f4 := (HZ2.out.2 4 (by decide)).2; have HZ2_c5 := (HZ2.out.2 5 (by decide)).1; have HZ2_f5 := (HZ2.out.2 5 (by decide)).2; have HZ2_c6 := (HZ2.out.2 6 (by decide)).1; have HZ2_f6 := (HZ2.out.2 6 (by decide)).2; have HZ2_c7 := (HZ2.out.2 7 (by decide)).1; have HZ2_f7 := (HZ2.out.2 7 (by decide)).2; have HZ2_c8 := (HZ2.out.2 8 (by decide)).1; have HZ2_f8 := (HZ2.out.2 8 (by decide)).2; have HZ2_c9 := (HZ2.out.2 9 (by decide)).1; have HZ2_f9 := (HZ2.out.2 9 (by decide)).2; have HZ2_c10 := (HZ2.out.2 10 (by decide)).1; have HZ2_f10 := (HZ2.out.2 10 (by decide)).2; have HZ2_c11 := (HZ2.out.2 11 (by decide)).1; have HZ2_f11 := (HZ2.out.2 11 (by decide)).2; have HZ2_z := HZ2.out.1
        have := HB2.out
        go_wp2
        generalize hwf : World.setCell _ _ _ = wf; have r1 : Ints wf (w.heap.size + 1) 12 (g) := (by rw [← hwf]; exact HZ2.out.set12 (g)); have r3 : Below w.heap.size w wf := (by rw [← hwf]; exact bel); refine bodyPost_ret (ret_cell_tmp Try.results10 (w.heap.size + 1) (hubL (g)) _ rfl (hubL_row r1) Try.underlying24 rfl (by kernel_rfl)) rfl ⟨rfl, r3⟩
    · have e1 : ¬ 0 < f 10 := by omega
      have H0 := Lib.hid h0
      have c10 := (HX2.out.2 10 (by decide)).1
      rw [h0] at c10
      have zz := HX2.out.1
      clear h0
      go_upto_region 5 with fail
      clear c10
      have HX2_c0 := (HX2.out.2 0 (by decide)).1; have HX2_c1 := (HX2.out.2 1 (by decide)).1; have HX2_c2 := (HX2.out.2 2 (by decide)).1; have HX2_c3 := (HX2.out.2 3 (by decide)).1; have HX2_c4 := (HX2.out.2 4 (by decide)).1; have HX2_c5 := (HX2.out.2 5 (by decide)).1; have HX2_c6 := (HX2.out.2 6 (by decide)).1; have HX2_c7 := (HX2.out.2 7 (by decide)).1; have HX2_c8 := (HX2.out.2 8 (by decide)).1; have HX2_c9 := (HX2.out.2 9 (by decide)).1; have HX2_c10 := (HX2.out.2 10 (by decide)).1; have HX2_c11 := (HX2.out.2 11 (by decide)).1; have HX2_z := HX2.out.1
      go_wp2_with fail
      refine (CT.out _).mono ?_; rintro e w3 ⟨rfl, hb⟩; have hz := hb.size; (try simp only [World.size_alloc, World.heap_drewN, World.size_drew, World.size_setCell] at hz)
      have HB3 := Lib.hid (show Below w.heap.size w w3 from by have := HB2.out; exact bel)
      have HX3 := Lib.hid (HX2.out.below hb)
      have HZ3 := Lib.hid (HZ2.out.below hb)
      clear hb HZ2 HB2
      clear HX2_c0 HX2_c1 HX2_c2 HX2_c3 HX2_c4 HX2_c5 HX2_c6 HX2_c7 HX2_c8 HX2_c9 HX2_c10 HX2_c11 HX2_z
      clear HX2
      by_cases hx : 2 ≤ Y
      · have HG := Lib.hid (fun j => HGT.out (by omega) (by have := EY.out; omega) j)
        clear e1 zz
        go_wp2_with fail
        refine (CB.out _).mono ?_; rintro e w4' ⟨rfl, hb⟩; have hz := hb.size; (try simp only [World.size_alloc, World.heap_drewN, World.size_drew, World.size_setCell] at hz)
        replace HB3 := Lib.hid (show Below w.heap.size w w4' from by have := HB3.out; exact bel)
        replace HX3 := Lib.hid (HX3.out.below hb)
        replace HZ3 := Lib.hid (HZ3.out.below hb)
        clear hb
        obtain ⟨c11, f11⟩ := HX3.out.2 11 (by decide)
        obtain ⟨c10, f10⟩ := HX3.out.2 10 (by decide)
        have zz3 := HX3.out.1
        go_upto_region 8 with fail
        generalize hw4 : World.setCell _ _ _ = w4
        have HX4 := Lib.hid (show Ints w4 w.heap.size 12 g from by
          rw [← hw4]
          exact (HX3.out.set 11 be (by omega) (fun j => if j = 11 then (be : Int) else f j) (fun j => rfl)).set 10 (2 * n) (by omega) _ HG.out)
        have HZ4 := Lib.hid (show Ints w4 (w.heap.size + 1) 12 (fun _ => 0) from by rw [← hw4]; exact (HZ3.out.other _ _ _ (by omega)).other _ _ _ (by omega))
        have HB4 := Lib.hid (show Below w.heap.size w w4 from by have := HB3.out; rw [← hw4]; exact bel)
        clear hw4 HX3 HZ3 HB3 c10 f10 c11 f11 zz3
        have HX4_c0 := (HX4.out.2 0 (by decide)).1; have HX4_c1 := (HX4.out.2 1 (by decide)).1; have HX4_c2 := (HX4.out.2 2 (by decide)).1; have HX4_c3 := (HX4.out.2 3 (by decide)).1; have HX4_c4 := (HX4.out.2 4 (by decide)).1; have HX4_c5 := (HX4.out.2 5 (by decide)).1; have HX4_c6 := (HX4.out.2 6 (by decide)).1; have HX4_c7 := (HX4.out.2 7 (by decide)).1; have HX4_c8 := (HX4.out.2 8 (by decide)).1; have HX4_c9 := (HX4.out.2 9 (by decide)).1; have HX4_c10 := (HX4.out.2 10 (by decide)).1; have HX4_c11 := (HX4.out.2 11 (by decide)).1; have HX4_z := HX4.out.1
        have HZ4_r := HZ4.out.row12; have HZ4_c0 := (HZ4.out.2 0 (by decide)).1; have HZ4_f0 := (HZ4.out.2 0 (by decide)).2; have HZ4_c1 := (HZ4.out.2 1 (by decide)).1; have HZ4_f1 := (HZ4.out.2 1 (by decide)).2; have HZ4_c2 := (HZ4.out.2 2 (by decide)).1; have HZ4_f2 := (HZ4.out.2 2 (by decide)).2; have HZ4_c3 := (HZ4.out.2 3 (by decide)).1; have HZ4_f3 := (HZ4.out.2 3 (by decide)).2; have HZ4_c4 := (HZ4.out.2 4 (by decide)).1; have HZ4_f4 := (HZ4.out.2 4 (by decide)).2; have HZ4_c5 := (HZ4.out.2 5 (by decide)).1; have HZ4_f5 := (HZ4.out.2 5 (by decide)).2; have HZ4_c6 := (HZ4.out.2 6 (by decide)).1; have HZ4_f6 := (HZ4.out.2 6 (by decide)).2; have HZ4_c7 := (HZ4.out.2 7 (by decide)).1; have HZ4_f7 := (HZ4.out.2 7 (by decide)).2; have HZ4_c8 := (HZ4.out.2 8 (by decide)).1; have HZ4_f8 := (HZ4.out.2 8 (by decide)).2; have HZ4_c9 := (HZ4.out.2 9 (by decide)).1; have HZ4_f9 := (HZ4.out.2 9 (by decide)).2; have HZ4_c10 := (HZ4.out.2 10 (by decide)).1; have HZ4_f10 := (HZ4.out.2 10 (by decide)).2; have HZ4_c11 := (HZ4.out.2 11 (by decide)).1; have HZ4_f11 := (HZ4.out.2 11 (by decide)).2; have HZ4_z := HZ4.out.1
        have := HB4.out
        go_wp2
        generalize hwf : World.setCell _ _ _ = wf; have r1 : Ints wf (w.heap.size + 1) 12 (g) := (by rw [← hwf]; exact HZ4.out.set12 (g)); have r3 : Below w.heap.size w wf := (by rw [← hwf]; exact bel); refine bodyPost_ret (ret_cell_tmp Try.results10 (w.heap.size + 1) (hubL (g)) _ rfl (hubL_row r1) Try.underlying24 rfl (by kernel_rfl)) rfl ⟨rfl, r3⟩
      · replace HX3 := Lib.hid (HX3.out.like (fun j _ => (congrFun (HGN.out (by omega) (by have := EY.out; omega)) j).symm))
        clear e1 zz
        have HX3_c0 := (HX3.out.2 0 (by decide)).1; have HX3_c1 := (HX3.out.2 1 (by decide)).1; have HX3_c2 := (HX3.out.2 2 (by decide)).1; have HX3_c3 := (HX3.out.2 3 (by decide)).1; have HX3_c4 := (HX3.out.2 4 (by decide)).1; have HX3_c5 := (HX3.out.2 5 (by decide)).1; have HX3_c6 := (HX3.out.2 6 (by decide)).1; have HX3_c7 := (HX3.out.2 7 (by decide)).1; have HX3_c8 := (HX3.out.2 8 (by decide)).1; have HX3_c9 := (HX3.out.2 9 (by decide)).1; have HX3_c10 := (HX3.out.2 10 (by decide)).1; have HX3_c11 := (HX3.out.2 11 (by decide)).1; have HX3_z := HX3.out.1
        have HZ3_r := HZ3.out.row12; have HZ3_c0 := (HZ3.out.2 0 (by decide)).1; have HZ3_f0 := (HZ3.out.2 0 (by decide)).2; have HZ3_c1 := (HZ3.out.2 1 (by decide)).1; have HZ3_f1 := (HZ3.out.2 1 (by decide)).2; have HZ3_c2 := (HZ3.out.2 2 (by decide)).1; have HZ3_f2 := (HZ3.out.2 2 (by decide)).2; have HZ3_c3 := (HZ3.out.2 3 (by decide)).1; have HZ3_f3 := (HZ3.out.2 3 (by decide)).2; have HZ3_c4 := (HZ3.out.2 4 (by decide)).1; have HZ3_f4 := (HZ3.out.2 4 (by decide)).2; have HZ3_c5 := (HZ3.out.2 5 (by decide)).1; have HZ3_f5 := (HZ3.out.2 5 (by decide)).2; have HZ3_c6 := (HZ3.out.2 6 (by decide)).1; have HZ3_f6 := (HZ3.out.2 6 (by decide)).2; have HZ3_c7 := (HZ3.out.2 7 (by decide)).1; have HZ3_f7 := (HZ3.out.2 7 (by decide)).2; have HZ3_c8 := (HZ3.out.2 8 (by decide)).1; have HZ3_f8 := (HZ3.out.2 8 (by decide)).2; have HZ3_c9 := (HZ3.out.2 9 (by decide)).1; have HZ3_f9 := (HZ3.out.2 9 (by decide)).2; have HZ3_c10 := (HZ3.out.2 10 (by decide)).1; have HZ3_f10 := (HZ3.out.2 10 (by decide)).2; have HZ3_c11 := (HZ3.out.2 11 (by decide)).1; have HZ3_f11 := (HZ3.out.2 11 (by decide)).2; have HZ3_z := HZ3.out.1
        have := HB3.out
        go_wp2
        generalize hwf : World.setCell _ _ _ = wf; have r1 : Ints wf (w.heap.size + 1) 12 (g) := (by rw [← hwf]; exact HZ3.out.set12 (g)); have r3 : Below w.heap.size w wf := (by rw [← hwf]; exact bel); refine bodyPost_ret (ret_cell_tmp Try.results10 (w.heap.size + 1) (hubL (g)) _ rfl (hubL_row r1) Try.underlying24 rfl (by kernel_rfl)) rfl ⟨rfl, r3⟩
  · have h := Bool.eq_false_iff.2 h
    rw [tickErr_no h]
    rw [h] at CR
    simp only [settle_bad h]
    go_enter Try.func10, Try.ntmps10
    go_wp2_with fail
    have HZ0 := Lib.hid (Ints.zeros (w.alloc (.cells #[.int .i64 (f 0), .int .i64 (f 1), .int .i64 (f 2), .int .i64 (f 3), .int .i64 (f 4), .int .i64 (f 5), .int .i64 (f 6), .int .i64 (f 7), .int .i64 (f 8), .int .i64 (f 9), .int .i64 (f 10), .int .i64 (f 11)] 24)) 24)
    refine (CR.out _).mono ?_; rintro e w1 ⟨rfl, hb⟩; have hz := hb.size; (try simp only [World.size_alloc, World.heap_drewN, World.size_drew, World.size_setCell] at hz)
    have HB1 := Lib.hid (show Below w.heap.size w w1 from bel)
    have HZ := Lib.hid (HZ0.out.below hb)
    rw [World.size_alloc] at HZ
    clear hb HZ0
    have HZ_r := HZ.out.row12; have HZ_c0 := (HZ.out.2 0 (by decide)).1; have HZ_f0 := (HZ.out.2 0 (by decide)).2; have HZ_c1 := (HZ.out.2 1 (by decide)).1; have HZ_f1 := (HZ.out.2 1 (by decide)).2; have HZ_c2 := (HZ.out.2 2 (by decide)).1; have HZ_f2 := (HZ.out.2 2 (by decide)).2; have HZ_c3 := (HZ.out.2 3 (by decide)).1; have HZ_f3 := (HZ.out.2 3 (by decide)).2; have HZ_c4 := (HZ.out.2 4 (by decide)).1; have HZ_f4 := (HZ.out.2 4 (by decide)).2; have HZ_c5 := (HZ.out.2 5 (by decide)).1; have HZ_f5 := (HZ.out.2 5 (by decide)).2; have HZ_c6 := (HZ.out.2 6 (by decide)).1; have HZ_f6 := (HZ.out.2 6 (by decide)).2; have HZ_c7 := (HZ.out.2 7 (by decide)).1; have HZ_f7 := (HZ.out.2 7 (by decide)).2; have HZ_c8 := (HZ.out.2 8 (by decide)).1; have HZ_f8 := (HZ.out.2 8 (by decide)).2; have HZ_c9 := (HZ.out.2 9 (by decide)).1; have HZ_f9 := (HZ.out.2 9 (by decide)).2; have HZ_c10 := (HZ.out.2 10 (by decide)).1; have HZ_f10 := (HZ.out.2 10 (by decide)).2; have HZ_c11 := (HZ.out.2 11 (by decide)).1; have HZ_f11 := (HZ.out.2 11 (by decide)).2; have HZ_z := HZ.out.1
    have := HB1.out
    go_wp2
    generalize hwf : World.setCell _ _ _ = wf; have r1 : Ints wf (w.heap.size + 1) 12 (fun _ => 0) := (by rw [← hwf]; exact HZ.out.set12 (fun _ => 0)); have r3 : Below w.heap.size w wf := (by rw [← hwf]; exact bel); refine bodyPost_ret (ret_cell_tmp Try.results10 (w.heap.size + 1) (hubL (fun _ => 0)) _ rfl (hubL_row r1) Try.underlying24 rfl (by kernel_rfl)) rfl ⟨rfl, r3⟩
end Go.Proofs.Ytijgabippedhpaa
