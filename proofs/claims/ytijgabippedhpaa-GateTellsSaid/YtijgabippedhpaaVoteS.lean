
import Derived.Test.YtijgabippedhpaaRows
import Derived.Test.YtijgabippedhpaaVoteQ
namespace Go.Proofs.Ytijgabippedhpaa
set_option linter.unusedVariables false
set_option linter.unusedSimpArgs false
open Go.ChangeShapes Go.WideShapes Go.RowKit

theorem ms_in {n : Int} (h : 3 ≤ n ∧ n ≤ 8) (K : Nat) : 0 ≤ ms n K ∧ ms n K ≤ 17 := by
  have := Vote.most_in h K
  unfold ms
  split <;> omega
theorem clean_end {n : Int} {f : Nat → Int} (h : Conf.right n = true) (j : Nat) (hj : j < 12) :
    (if j = 11 then f 11 % n else if j = 8 then f 8 % n else if j = 10 then Tally.clamp (f 10) 0 (2 * n) else stK (fun j => Tally.clamp (f j) 0 (ms n (idx j))) f 9 j) = Vote.clean n f j := by
  rw [stK_end]
  unfold Vote.clean
  rw [if_pos h]
  by_cases e : j < 8
  · rw [if_neg (show ¬ j = 11 by omega), if_neg (show ¬ j = 8 by omega), if_neg (show ¬ j = 10 by omega), if_pos e, if_pos e, ms_port n e]
  · have h4 : j = 8 ∨ j = 9 ∨ j = 10 ∨ j = 11 := by omega
    rcases h4 with rfl | rfl | rfl | rfl <;> simp [ms_cs]
set_option maxHeartbeats 4000000 in
theorem vClean_any (n : Int) (f : Nat → Int) (w : World) (hf : Bd12 f) :
    Calls Try.prog 35 #[.int .i64 n, .agg #[.int .i64 (f 0), .int .i64 (f 1), .int .i64 (f 2), .int .i64 (f 3), .int .i64 (f 4), .int .i64 (f 5), .int .i64 (f 6), .int .i64 (f 7), .int .i64 (f 8), .int .i64 (f 9), .int .i64 (f 10), .int .i64 (f 11)]] w fun e w' => e = .returned (.tuple #[.agg #[.int .i64 (Vote.clean n f 0), .int .i64 (Vote.clean n f 1), .int .i64 (Vote.clean n f 2), .int .i64 (Vote.clean n f 3), .int .i64 (Vote.clean n f 4), .int .i64 (Vote.clean n f 5), .int .i64 (Vote.clean n f 6), .int .i64 (Vote.clean n f 7), .int .i64 (Vote.clean n f 8), .int .i64 (Vote.clean n f 9), .int .i64 (Vote.clean n f 10), .int .i64 (Vote.clean n f 11)], .int .i64 (Vote.err n)]) ∧ Below w.heap.size w w' := by
  by_cases h : Conf.right n = true
  · have h38 := Conf.right_spec.1 h
    rw [Vote.err_yes h]
    have HR := Lib.hid h
    have HE := Lib.hid (fun j hj => clean_end (f := f) h j hj)
    have CA := Lib.hid (fun b w => ages_any n b w h)
    have HF := Lib.hid hf
    have CB := Lib.hid (fun w => block_val n _ (Conf.tm_yes h) w)
    generalize Vote.clean n f = g at *
    clear h hf
    go_enter Try.func35, Try.ntmps35
    go_wp2_with fail
    refine (cright_any _ _).mono ?_; rintro e w' ⟨rfl, rfl⟩
    rw [HR.out]
    go_upto_region 3 with fail
    have HI := Lib.hid ((Ints.box w f 24).alloc (.cells #[.int .i64 ((fun _ => (0 : Int)) 0), .int .i64 ((fun _ => (0 : Int)) 1), .int .i64 ((fun _ => (0 : Int)) 2), .int .i64 ((fun _ => (0 : Int)) 3), .int .i64 ((fun _ => (0 : Int)) 4), .int .i64 ((fun _ => (0 : Int)) 5), .int .i64 ((fun _ => (0 : Int)) 6), .int .i64 ((fun _ => (0 : Int)) 7), .int .i64 ((fun _ => (0 : Int)) 8), .int .i64 ((fun _ => (0 : Int)) 9), .int .i64 ((fun _ => (0 : Int)) 10), .int .i64 ((fun _ => (0 : Int)) 11)] 24))
    have HZ := Lib.hid (Ints.zeros (w.alloc (.cells #[.int .i64 (f 0), .int .i64 (f 1), .int .i64 (f 2), .int .i64 (f 3), .int .i64 (f 4), .int .i64 (f 5), .int .i64 (f 6), .int .i64 (f 7), .int .i64 (f 8), .int .i64 (f 9), .int .i64 (f 10), .int .i64 (f 11)] 24)) 24)
    go_wp2_with fail
    refine (CA.out _ _).mono ?_; rintro e w1 ⟨rfl, hb⟩; have hz := hb.size; (try simp only [World.size_alloc, World.heap_drewN, World.size_drew, World.size_setCell] at hz)
    have HB1 := Lib.hid (show Below w.heap.size w w1 from bel)
    have HI1 := Lib.hid (HI.out.below hb)
    have HZ1 := Lib.hid (HZ.out.below hb)
    clear hb HI HZ
    go_wp2_with fail
    go_loopw [14] (fun k wr => ∃ K : Nat, K ≤ 9 ∧ k = .int .i64 K ∧ Ints wr w.heap.size 12 (stK (fun j => Tally.clamp (f j) 0 (ms n (idx j))) f K) ∧ Ints wr (w.heap.size + 1) 12 (fun _ => 0) ∧ Below w.heap.size w wr) (fun k _ => 9 - (intOf k).toNat)
    case atStart =>
      refine ⟨0, by omega, rfl, ?_, ?_, HB1.out⟩
      · rw [stK_zero]
        exact HI1.out
      · simpa using HZ1.out
    case round =>
      clear HI1 HZ1 HB1
      obtain ⟨K, hK, rfl, hI, hZ, hb⟩ := hrel
      have HB := Lib.hid hb
      have HI := Lib.hid hI
      have HZ := Lib.hid hZ
      clear hb hI hZ
      by_cases hlt : K < 9
      · have h1 : (K : Int) < 9 := by omega
        have ha := ages_index w.heap.size (ms n) hlt
        have HN := Lib.hid (stK_next (fun j => Tally.clamp (f j) 0 (ms n (idx j))) f hlt)
        rw [idx_pl hlt] at HN
        have hp := pl_lt hlt
        have hm := ms_in h38 K
        have hat := stK_at (fun j => Tally.clamp (f j) 0 (ms n (idx j))) f hlt
        generalize ms n K = x at *
        generalize pl K = q at *
        have hfq := HF.out q hp
        have CC := Lib.hid (fun w => clamp_any (f q) 0 x (by omega) (by omega) (by omega) w)
        generalize Tally.clamp (f q) 0 x = y at *
        go_upto_region 6 with fail
        obtain ⟨c0, c1⟩ := two_new wr (.pointer (some ⟨w.heap.size, q, none⟩)) (.int .i64 x) 58
        have HI2 := Lib.hid (HI.out.alloc (.cells #[.pointer (some ⟨w.heap.size, q, none⟩), .int .i64 x] 58))
        have HZ2 := Lib.hid (HZ.out.alloc (.cells #[.pointer (some ⟨w.heap.size, q, none⟩), .int .i64 x] 58))
        have HB2 := Lib.hid (show Below w.heap.size w (wr.alloc (.cells #[.pointer (some ⟨w.heap.size, q, none⟩), .int .i64 x] 58)) from by have := HB.out; exact bel)
        generalize World.alloc wr _ = wa at *
        clear HI HZ HB
        obtain ⟨cq, fq⟩ := HI2.out.2 q hp
        rw [hat] at cq
        generalize f q = fv at *
        clear hat
        go_still_tail 10, (by kernel_rfl)
        repeat still_step
        still_call (Calls.back (CC.out _))
        repeat still_step
        refine wpStill_nil ?_
        change wpList _ _ _ _ _ wa.drew
        go_wp2
        go_roundw
        case rel =>
          have := HB2.out
          exact ⟨K + 1, by omega, by go_num, (show Ints wa.drew _ _ _ from HI2.out).set q y hp _ HN.out, (show Ints wa.drew _ _ _ from HZ2.out).other _ _ _ (by omega), bel⟩
        case measure => simp [intOf]; omega
      · obtain rfl : K = 9 := by omega
        have E8 := Lib.hid (stK_end (fun j => Tally.clamp (f j) 0 (ms n (idx j))) f 8)
        have E10 := Lib.hid (stK_end (fun j => Tally.clamp (f j) 0 (ms n (idx j))) f 10)
        have E11 := Lib.hid (stK_end (fun j => Tally.clamp (f j) 0 (ms n (idx j))) f 11)
        simp only [show ¬ (8 : Nat) < 8 by decide, show ¬ (8 : Nat) = 9 by decide, show ¬ (10 : Nat) < 8 by decide, show ¬ (10 : Nat) = 9 by decide, show ¬ (11 : Nat) < 8 by decide, show ¬ (11 : Nat) = 9 by decide, if_false] at E8 E10 E11
        generalize stK (fun j => Tally.clamp (f j) 0 (ms n (idx j))) f 9 = s at *
        have b8 := HF.out 8 (by decide)
        have b10 := HF.out 10 (by decide)
        have b11 := HF.out 11 (by decide)
        have CC := Lib.hid (fun w => clamp_any (f 10) 0 (2 * n) (by omega) (by omega) (by omega) w)
        have C8 := Lib.hid (fun w => mod_any n (f 8) (by omega) (by omega) w)
        have C11 := Lib.hid (fun w => mod_any n (f 11) (by omega) (by omega) w)
        clear b8 b10 b11
        generalize Tally.clamp (f 10) 0 (2 * n) = x10 at *
        generalize f 8 % n = x8 at *
        generalize f 11 % n = x11 at *
        go_upto_region 8 with fail
        refine region_below_tail 6 (by kernel_rfl) (by kernel_rfl) ?_; intro wR HW; simp only [List.take_succ_cons, List.take_zero, List.drop_succ_cons, List.drop_zero]
        have HBR := Lib.hid (show Below w.heap.size w wR from by have := HB.out; rw [← HW.out]; exact bel)
        have HIR := Lib.hid (show Ints wR w.heap.size 12 s from by rw [← HW.out]; exact HI.out)
        have HZR := Lib.hid (show Ints wR (w.heap.size + 1) 12 (fun _ => 0) from by rw [← HW.out]; exact HZ.out)
        clear HI HZ HB
        have c10 := (HIR.out.2 10 (by decide)).1
        rw [E10.out] at c10
        replace c10 := cell_regrown c10
        (repeat (first | go_big_quiet_step (first | with_reducible exact Calls.regrown_of (CB.out _) | with_reducible exact Calls.regrown_of (Calls.same_below (Calls.back (CC.out _)))) | quiet_step (first | with_reducible exact Calls.regrown_of (CB.out _) | with_reducible exact Calls.regrown_of (Calls.same_below (Calls.back (CC.out _)))))); refine wpQuiet_nil ?_; intro w2 hb2
        have HI2 := Lib.hid (HIR.out.below hb2)
        have HZ2 := Lib.hid (HZR.out.below hb2)
        have HB2 := Lib.hid (show Below w.heap.size w w2 from by have := HBR.out; exact bthru hb2 this)
        clear hb2 c10 HIR HZR HBR
        obtain ⟨c10, f10⟩ := HI2.out.2 10 (by decide)
        have hz := HI2.out.1
        go_upto_region 9 with fail
        generalize hw3 : World.setCell _ _ _ = w3
        have HI3 := Lib.hid (show Ints w3 w.heap.size 12 (fun j => if j = 10 then x10 else s j) from by rw [← hw3]; exact HI2.out.set 10 x10 (by decide) _ (fun j => rfl))
        have HZ3 := Lib.hid (show Ints w3 (w.heap.size + 1) 12 (fun _ => 0) from by rw [← hw3]; exact HZ2.out.other _ _ _ (by omega))
        have HB3 := Lib.hid (show Below w.heap.size w w3 from by have := HB2.out; rw [← hw3]; exact bel)
        clear hw3 c10 f10 HI2 HZ2 HB2
        have c8 : w3.cell? ⟨w.heap.size, 8, none⟩ = some (.int .i64 (f 8)) := by have := (HI3.out.2 8 (by decide)).1; rw [← E8.out]; exact this
        have c11 : w3.cell? ⟨w.heap.size, 11, none⟩ = some (.int .i64 (f 11)) := by have := (HI3.out.2 11 (by decide)).1; rw [← E11.out]; exact this
        have f8 := (HI3.out.2 8 (by decide)).2
        have f11 := (HI3.out.2 11 (by decide)).2
        go_still_tail 9, (by kernel_rfl)
        repeat still_step
        still_call (Calls.back (C8.out _))
        repeat still_step
        still_call (Calls.back (C11.out _))
        repeat still_step
        refine wpStill_nil ?_
        change wpList _ _ _ _ _ w3.drew
        go_upto_region 10 with fail
        generalize hw4 : World.drew _ = w4
        have HI4 := Lib.hid (show Ints w4 w.heap.size 12 g from by
          rw [← hw4]
          refine ((HI3.out.set 8 x8 (by decide) _ (fun j => rfl)).set 11 x11 (by decide) (fun j => if j = 11 then x11 else if j = 8 then x8 else if j = 10 then x10 else s j) (fun j => rfl)).like (fun j hj => ?_)
          exact HE.out j hj)
        have HZ4 := Lib.hid (show Ints w4 (w.heap.size + 1) 12 (fun _ => 0) from by rw [← hw4]; exact (HZ3.out.other _ _ _ (by omega)).other _ _ _ (by omega))
        have HB4 := Lib.hid (show Below w.heap.size w w4 from by have := HB3.out; rw [← hw4]; exact bel)
        clear hw4 c8 f8 c11 f11 HI3 HZ3 HB3
        have HI4_c0 := (HI4.out.2 0 (by decide)).1; have HI4_c1 := (HI4.out.2 1 (by decide)).1; have HI4_c2 := (HI4.out.2 2 (by decide)).1; have HI4_c3 := (HI4.out.2 3 (by decide)).1; have HI4_c4 := (HI4.out.2 4 (by decide)).1; have HI4_c5 := (HI4.out.2 5 (by decide)).1; have HI4_c6 := (HI4.out.2 6 (by decide)).1; have HI4_c7 := (HI4.out.2 7 (by decide)).1; have HI4_c8 := (HI4.out.2 8 (by decide)).1; have HI4_c9 := (HI4.out.2 9 (by decide)).1; have HI4_c10 := (HI4.out.2 10 (by decide)).1; have HI4_c11 := (HI4.out.2 11 (by decide)).1; have HI4_z := HI4.out.1
        have HZ4_r := HZ4.out.row12; have HZ4_c0 := (HZ4.out.2 0 (by decide)).1; have HZ4_f0 := (HZ4.out.2 0 (by decide)).2; have HZ4_c1 := (HZ4.out.2 1 (by decide)).1; have HZ4_f1 := (HZ4.out.2 1 (by decide)).2; have HZ4_c2 := (HZ4.out.2 2 (by decide)).1; have HZ4_f2 := (HZ4.out.2 2 (by decide)).2; have HZ4_c3 := (HZ4.out.2 3 (by decide)).1; have HZ4_f3 := (HZ4.out.2 3 (by decide)).2; have HZ4_c4 := (HZ4.out.2 4 (by decide)).1; have HZ4_f4 := (HZ4.out.2 4 (by decide)).2; have HZ4_c5 := (HZ4.out.2 5 (by decide)).1; have HZ4_f5 := (HZ4.out.2 5 (by decide)).2; have HZ4_c6 := (HZ4.out.2 6 (by decide)).1; have HZ4_f6 := (HZ4.out.2 6 (by decide)).2; have HZ4_c7 := (HZ4.out.2 7 (by decide)).1; have HZ4_f7 := (HZ4.out.2 7 (by decide)).2; have HZ4_c8 := (HZ4.out.2 8 (by decide)).1; have HZ4_f8 := (HZ4.out.2 8 (by decide)).2; have HZ4_c9 := (HZ4.out.2 9 (by decide)).1; have HZ4_f9 := (HZ4.out.2 9 (by decide)).2; have HZ4_c10 := (HZ4.out.2 10 (by decide)).1; have HZ4_f10 := (HZ4.out.2 10 (by decide)).2; have HZ4_c11 := (HZ4.out.2 11 (by decide)).1; have HZ4_f11 := (HZ4.out.2 11 (by decide)).2; have HZ4_z := HZ4.out.1
        have := HB4.out
        go_wp2
        refine bodyPost_ret (ret_cell_tmp Try.results35 (w.heap.size + 1) [.int .i64 ((g) 0), .int .i64 ((g) 1), .int .i64 ((g) 2), .int .i64 ((g) 3), .int .i64 ((g) 4), .int .i64 ((g) 5), .int .i64 ((g) 6), .int .i64 ((g) 7), .int .i64 ((g) 8), .int .i64 ((g) 9), .int .i64 ((g) 10), .int .i64 ((g) 11)] _ rfl rng Try.underlying24 rfl (by kernel_rfl)) rfl ⟨rfl, ?_⟩; exact bel
  · have h := Bool.eq_false_iff.2 h
    rw [Vote.err_no h]
    simp only [clean_no h]
    go_enter Try.func35, Try.ntmps35
    go_wp2_with fail
    refine (cright_any _ _).mono ?_; rintro e w' ⟨rfl, rfl⟩
    rw [h]
    go_wp2
    refine bodyPost_ret (ret_cell_tmp Try.results35 (w.heap.size + 1) [.int .i64 ((fun _ => 0) 0), .int .i64 ((fun _ => 0) 1), .int .i64 ((fun _ => 0) 2), .int .i64 ((fun _ => 0) 3), .int .i64 ((fun _ => 0) 4), .int .i64 ((fun _ => 0) 5), .int .i64 ((fun _ => 0) 6), .int .i64 ((fun _ => 0) 7), .int .i64 ((fun _ => 0) 8), .int .i64 ((fun _ => 0) 9), .int .i64 ((fun _ => 0) 10), .int .i64 ((fun _ => 0) 11)] _ rfl rng Try.underlying24 rfl (by kernel_rfl)) rfl ⟨rfl, ?_⟩; exact bel
end Go.Proofs.Ytijgabippedhpaa
