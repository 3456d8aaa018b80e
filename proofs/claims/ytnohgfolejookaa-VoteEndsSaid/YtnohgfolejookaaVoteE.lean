
import Derived.Test.YtnohgfolejookaaRows
import Derived.Test.YtnohgfolejookaaVoteD
namespace Go.Proofs.Ytnohgfolejookaa
set_option linter.unusedVariables false
set_option linter.unusedSimpArgs false
open Go.ChangeShapes Go.WideShapes Go.RowKit

/-- A tick later, when the first 'K' ages are. -/
def tickK (n : Int) (f : Nat → Int) (K j : Nat) : Int := if j < K then Tally.up (f j) n else f j
theorem tickK_at (n : Int) (f : Nat → Int) (K : Nat) : tickK n f K K = f K := if_neg (by omega)
theorem tickK_next (n : Int) (f : Nat → Int) (K j : Nat) : tickK n f (K + 1) j = if j = K then Tally.up (f K) n else tickK n f K j := by
  unfold tickK
  by_cases e : j = K
  · subst e; rw [if_pos (by omega), if_pos rfl]
  · rw [if_neg e]
    by_cases e2 : j < K
    · rw [if_pos e2, if_pos (by omega)]
    · rw [if_neg e2, if_neg (by omega)]
theorem tick_yes {m : Nat} {f : Nat → Int} (h : Vote.ok m f = true) (j : Nat) (hj : j < 12) : Vote.tick m f j = (if j = 11 then (f 11 + 1) % m else if j = 10 then Tally.down (f 10) else if j = 9 then Tally.up (f 9) (2 * m + 1) else tickK m f m j) := by
  have h38 := (Vote.ok_iff.1 h).1
  unfold Vote.tick tickK
  rw [if_pos h]
  by_cases h8 : j < 8
  · rw [if_pos h8]
    simp only [if_neg (show ¬ j = 11 by omega), if_neg (show ¬ j = 10 by omega), if_neg (show ¬ j = 9 by omega)]
    by_cases hm : j < m
    · rw [if_pos hm, if_pos (show (j : Int) < m by omega)]
    · rw [if_neg hm, if_neg (show ¬ (j : Int) < m by omega)]
  · rw [if_neg h8]
    have h4 : j = 8 ∨ j = 9 ∨ j = 10 ∨ j = 11 := by omega
    rcases h4 with rfl | rfl | rfl | rfl
    · simp only [if_neg (show ¬ (8 : Nat) = 11 by omega), if_neg (show ¬ (8 : Nat) = 10 by omega), if_neg (show ¬ (8 : Nat) = 9 by omega), if_neg (show ¬ 8 < m by omega), if_true]
    · rfl
    · rfl
    · rfl
theorem tick_no {n : Int} {f : Nat → Int} (h : Vote.ok n f = false) (j : Nat) : Vote.tick n f j = 0 := by unfold Vote.tick; rw [h]; rfl
theorem tickErr_yes {n : Int} {f : Nat → Int} (h : Vote.ok n f = true) : Vote.tickErr n f = 0 := if_pos h
theorem tickErr_no {n : Int} {f : Nat → Int} (h : Vote.ok n f = false) : Vote.tickErr n f = 1 := by unfold Vote.tickErr; rw [h]; rfl
set_option maxHeartbeats 4000000 in
theorem refVTick_any (n : Int) (f : Nat → Int) (w : World) :
    Calls Try.prog 13 #[.int .i64 n, .agg #[.int .i64 (f 0), .int .i64 (f 1), .int .i64 (f 2), .int .i64 (f 3), .int .i64 (f 4), .int .i64 (f 5), .int .i64 (f 6), .int .i64 (f 7), .int .i64 (f 8), .int .i64 (f 9), .int .i64 (f 10), .int .i64 (f 11)]] w fun e w' => e = .returned (.tuple #[.agg #[.int .i64 (Vote.tick n f 0), .int .i64 (Vote.tick n f 1), .int .i64 (Vote.tick n f 2), .int .i64 (Vote.tick n f 3), .int .i64 (Vote.tick n f 4), .int .i64 (Vote.tick n f 5), .int .i64 (Vote.tick n f 6), .int .i64 (Vote.tick n f 7), .int .i64 (Vote.tick n f 8), .int .i64 (Vote.tick n f 9), .int .i64 (Vote.tick n f 10), .int .i64 (Vote.tick n f 11)], .int .i64 (Vote.tickErr n f)]) ∧ Below w.heap.size w w' := by
  by_cases h : Vote.ok n f = true
  · have hok := Vote.ok_iff.1 h
    have h38 := hok.1
    rw [tickErr_yes h]
    have ht : Conf.tm n 2 = 2 * n := Conf.tm_yes (Conf.right_spec.2 h38)
    have CB := Lib.hid (fun w => refBlock_val n _ ht w)
    have HR := Lib.hid h
    have HOK := Lib.hid hok
    clear ht
    obtain ⟨m, rfl⟩ := Int.eq_ofNat_of_zero_le (show 0 ≤ n by omega)
    have HG := Lib.hid (fun j hj => tick_yes (f := f) h j hj)
    generalize Vote.tick (m : Int) f = g at *
    clear h hok
    have s2 : IntKind.i64.wrap (2 * (m : Int) + 1) = 2 * m + 1 := IntWalk.i64_in _ (by omega)
    go_enter Try.func13, Try.ntmps13
    go_wp2_with fail
    refine (refVRight_any m f _).mono ?_
    rintro e w1 ⟨rfl, hb⟩
    rw [HR.out]
    have hz := hb.size
    (try simp only [World.size_alloc, World.heap_drewN, World.size_drew, World.size_setCell] at hz)
    have HB1 := Lib.hid (show Below w.heap.size w w1 from bel)
    have HI := Lib.hid (((Ints.box w (tickK m f 0) 24).alloc (.cells #[.int .i64 ((fun _ => (0 : Int)) 0), .int .i64 ((fun _ => (0 : Int)) 1), .int .i64 ((fun _ => (0 : Int)) 2), .int .i64 ((fun _ => (0 : Int)) 3), .int .i64 ((fun _ => (0 : Int)) 4), .int .i64 ((fun _ => (0 : Int)) 5), .int .i64 ((fun _ => (0 : Int)) 6), .int .i64 ((fun _ => (0 : Int)) 7), .int .i64 ((fun _ => (0 : Int)) 8), .int .i64 ((fun _ => (0 : Int)) 9), .int .i64 ((fun _ => (0 : Int)) 10), .int .i64 ((fun _ => (0 : Int)) 11)] 24)).below (show Below _ _ w1 from by simpa [tickK] using hb))
    have HZ := Lib.hid ((Ints.zeros (w.alloc (.cells #[.int .i64 (tickK m f 0 0), .int .i64 (tickK m f 0 1), .int .i64 (tickK m f 0 2), .int .i64 (tickK m f 0 3), .int .i64 (tickK m f 0 4), .int .i64 (tickK m f 0 5), .int .i64 (tickK m f 0 6), .int .i64 (tickK m f 0 7), .int .i64 (tickK m f 0 8), .int .i64 (tickK m f 0 9), .int .i64 (tickK m f 0 10), .int .i64 (tickK m f 0 11)] 24)) 24).below (show Below _ _ w1 from by simpa [tickK] using hb))
    clear hb
    go_wp2_with fail
    go_loopw [6] (fun k wr => ∃ K : Nat, K ≤ m ∧ k = .int .i64 K ∧ Ints wr w.heap.size 12 (tickK m f K) ∧ Ints wr (w.heap.size + 1) 12 (fun _ => 0) ∧ Below w.heap.size w wr) (fun k _ => m - (intOf k).toNat)
    case atStart =>
      have := HB1.out
      refine ⟨0, by omega, rfl, HI.out, ?_, bel⟩
      simpa using HZ.out
    case round =>
      clear HI HZ HB1
      obtain ⟨K, hK, rfl, hI, hZ, hb⟩ := hrel
      have HB := Lib.hid hb
      have HI := Lib.hid hI
      have HZ := Lib.hid hZ
      by_cases hlt : K < m
      · have h1 : (K : Int) < m := by omega
        have h8 : (K : Int) < 8 := by omega
        have h0 : (0 : Int) ≤ K := by omega
        obtain ⟨c0, f0⟩ := hI.2 K (by omega)
        rw [tickK_at] at c0
        have HN := Lib.hid (tickK_next m f K)
        have hK2 := HOK.out.2.1 K (by omega)
        rw [Vote.most_yes h1] at hK2
        have CU := Lib.hid (fun w => refUp_any (f K) m (by omega) (by omega) w)
        generalize Tally.up (f K) m = x at *
        clear hb hI hZ hK2
        go_wp2_with fail
        refine (CU.out _).mono ?_; rintro e w' ⟨rfl, rfl⟩
        go_wp2
        go_roundw
        case rel =>
          have := HB.out
          exact ⟨K + 1, by omega, by go_num, HI.out.set K x (by omega) _ HN.out, HZ.out.other _ _ _ (by omega), bel⟩
        case measure => simp [intOf]; omega
      · obtain rfl : K = m := by omega
        obtain ⟨-, -, k8, k9, k10, k11⟩ := HOK.out
        have CU := Lib.hid (fun w => refUp_any (f 9) (2 * K + 1) (by omega) (by omega) w)
        have CD := Lib.hid (fun w => refDown_any (f 10) (by omega) w)
        have CN := Lib.hid (fun w => refNext_any K (f 11) (by omega) (by omega) (by omega) (by omega) w)
        clear hb k8 k9 k10 k11
        generalize hq : tickK K f K = q at *
        have HQ : Hid (q = tickK K f K) := hq.symm
        clear hq
        have E9 : q 9 = f 9 := by rw [HQ.out]; exact if_neg (by omega)
        have E10 : q 10 = f 10 := by rw [HQ.out]; exact if_neg (by omega)
        have E11 : q 11 = f 11 := by rw [HQ.out]; exact if_neg (by omega)
        generalize (f 11 + 1) % (K : Int) = x11 at *
        generalize Tally.up (f 9) (2 * K + 1) = x9 at *
        generalize Tally.down (f 10) = x10 at *
        obtain ⟨c9, f9⟩ := hI.2 9 (by decide)
        obtain ⟨c10, f10⟩ := hI.2 10 (by decide)
        obtain ⟨c11, f11⟩ := hI.2 11 (by decide)
        rw [E9] at c9
        rw [E10] at c10
        rw [E11] at c11
        have hz := hI.1
        clear hI hZ E9 E10 E11
        go_upto_region 7 with fail
        go_still_tail 7, (by kernel_rfl)
        still_call (CB.out _)
        repeat still_step
        still_call (Calls.back (CU.out _))
        repeat still_step
        refine wpStill_nil ?_
        change wpList _ _ _ _ _ wr.drew
        go_wp2_with fail
        refine (CD.out _).mono ?_; rintro e w' ⟨rfl, rfl⟩
        go_wp2_with fail
        refine (CN.out _).mono ?_; rintro e w' ⟨rfl, rfl⟩
        go_upto_region 10 with fail
        generalize hw2 : World.drew _ = w2
        have HI2 := Lib.hid (show Ints w2 w.heap.size 12 g from by
          rw [← hw2]
          refine (((HI.out.set 9 x9 (by omega) _ (fun j => rfl)).set 10 x10 (by omega) _ (fun j => rfl)).set 11 x11 (by omega) (fun j => if j = 11 then x11 else if j = 10 then x10 else if j = 9 then x9 else q j) (fun j => rfl)).like (fun j hj => ?_)
          rw [HG.out j hj])
        have HZ2 := Lib.hid (show Ints w2 (w.heap.size + 1) 12 (fun _ => 0) from by rw [← hw2]; exact ((HZ.out.other _ _ _ (by omega)).other _ _ _ (by omega)).other _ _ _ (by omega))
        have HB2 := Lib.hid (show Below w.heap.size w w2 from by have := HB.out; rw [← hw2]; exact bel)
        clear hw2 c9 f9 c10 f10 c11 f11 HI HZ HB
        have HI2_c0 := (HI2.out.2 0 (by decide)).1; have HI2_c1 := (HI2.out.2 1 (by decide)).1; have HI2_c2 := (HI2.out.2 2 (by decide)).1; have HI2_c3 := (HI2.out.2 3 (by decide)).1; have HI2_c4 := (HI2.out.2 4 (by decide)).1; have HI2_c5 := (HI2.out.2 5 (by decide)).1; have HI2_c6 := (HI2.out.2 6 (by decide)).1; have HI2_c7 := (HI2.out.2 7 (by decide)).1; have HI2_c8 := (HI2.out.2 8 (by decide)).1; have HI2_c9 := (HI2.out.2 9 (by decide)).1; have HI2_c10 := (HI2.out.2 10 (by decide)).1; have HI2_c11 := (HI2.out.2 11 (by decide)).1; have HI2_z := HI2.out.1
        have HZ2_r := HZ2.out.row12; have HZ2_c0 := (HZ2.out.2 0 (by decide)).1; have HZ2_f0 := (HZ2.out.2 0 (by decide)).2; have HZ2_c1 := (HZ2.out.2 1 (by decide)).1; have HZ2_f1 := (HZ2.out.2 1 (by decide)).2; have HZ2_c2 := (HZ2.out.2 2 (by decide)).1; have HZ2_f2 := (HZ2.out.2 2 (by decide)).2; have HZ2_c3 := (HZ2.out.2 3 (by decide)).1; have HZ2_f3 := (HZ2.out.2 3 (by decide)).2; have HZ2_c4 := (HZ2.out.2 4 (by decide)).1; have HZ2_f4 := (HZ2.out.2 4 (by decide)).2; have HZ2_c5 := (HZ2.out.2 5 (by decide)).1; have HZ2_f5 := (HZ2.out.2 5 (by decide)).2; have HZ2_c6 := (HZ2.out.2 6 (by decide)).1; have HZ2_f6 := (HZ2.out.2 6 (by decide)).2; have HZ2_c7 := (HZ2.out.2 7 (by decide)).1; have HZ2_f7 := (HZ2.out.2 7 (by decide)).2; have HZ2_c8 := (HZ2.out.2 8 (by decide)).1; have HZ2_f8 := (HZ2.out.2 8 (by decide)).2; have HZ2_c9 := (HZ2.out.2 9 (by decide)).1; have HZ2_f9 := (HZ2.out.2 9 (by decide)).2; have HZ2_c10 := (HZ2.out.2 10 (by decide)).1; have HZ2_f10 := (HZ2.out.2 10 (by decide)).2; have HZ2_c11 := (HZ2.out.2 11 (by decide)).1; have HZ2_f11 := (HZ2.out.2 11 (by decide)).2; have HZ2_z := HZ2.out.1
        have := HB2.out
        go_wp2
        refine bodyPost_ret (ret_cell_tmp Try.results13 (w.heap.size + 1) [.int .i64 ((g) 0), .int .i64 ((g) 1), .int .i64 ((g) 2), .int .i64 ((g) 3), .int .i64 ((g) 4), .int .i64 ((g) 5), .int .i64 ((g) 6), .int .i64 ((g) 7), .int .i64 ((g) 8), .int .i64 ((g) 9), .int .i64 ((g) 10), .int .i64 ((g) 11)] _ rfl rng Try.underlying24 rfl (by kernel_rfl)) rfl ⟨rfl, ?_⟩; exact bel
  · have h := Bool.eq_false_iff.2 h
    rw [tickErr_no h]
    simp only [tick_no h]
    go_enter Try.func13, Try.ntmps13
    go_wp2_with fail
    refine (refVRight_any n f _).mono ?_
    rintro e w1 ⟨rfl, hb⟩
    rw [h]
    have hz := hb.size
    (try simp only [World.size_alloc, World.heap_drewN, World.size_drew, World.size_setCell] at hz)
    have HB1 := Lib.hid (show Below w.heap.size w w1 from bel)
    have HZ := Lib.hid ((Ints.zeros (w.alloc (.cells #[.int .i64 (f 0), .int .i64 (f 1), .int .i64 (f 2), .int .i64 (f 3), .int .i64 (f 4), .int .i64 (f 5), .int .i64 (f 6), .int .i64 (f 7), .int .i64 (f 8), .int .i64 (f 9), .int .i64 (f 10), .int .i64 (f 11)] 24)) 24).below hb)
    rw [World.size_alloc] at HZ
    clear hb
    have HZ_r := HZ.out.row12; have HZ_c0 := (HZ.out.2 0 (by decide)).1; have HZ_f0 := (HZ.out.2 0 (by decide)).2; have HZ_c1 := (HZ.out.2 1 (by decide)).1; have HZ_f1 := (HZ.out.2 1 (by decide)).2; have HZ_c2 := (HZ.out.2 2 (by decide)).1; have HZ_f2 := (HZ.out.2 2 (by decide)).2; have HZ_c3 := (HZ.out.2 3 (by decide)).1; have HZ_f3 := (HZ.out.2 3 (by decide)).2; have HZ_c4 := (HZ.out.2 4 (by decide)).1; have HZ_f4 := (HZ.out.2 4 (by decide)).2; have HZ_c5 := (HZ.out.2 5 (by decide)).1; have HZ_f5 := (HZ.out.2 5 (by decide)).2; have HZ_c6 := (HZ.out.2 6 (by decide)).1; have HZ_f6 := (HZ.out.2 6 (by decide)).2; have HZ_c7 := (HZ.out.2 7 (by decide)).1; have HZ_f7 := (HZ.out.2 7 (by decide)).2; have HZ_c8 := (HZ.out.2 8 (by decide)).1; have HZ_f8 := (HZ.out.2 8 (by decide)).2; have HZ_c9 := (HZ.out.2 9 (by decide)).1; have HZ_f9 := (HZ.out.2 9 (by decide)).2; have HZ_c10 := (HZ.out.2 10 (by decide)).1; have HZ_f10 := (HZ.out.2 10 (by decide)).2; have HZ_c11 := (HZ.out.2 11 (by decide)).1; have HZ_f11 := (HZ.out.2 11 (by decide)).2; have HZ_z := HZ.out.1
    have := HB1.out
    go_wp2
    refine bodyPost_ret (ret_cell_tmp Try.results13 (w.heap.size + 1) [.int .i64 ((fun _ => 0) 0), .int .i64 ((fun _ => 0) 1), .int .i64 ((fun _ => 0) 2), .int .i64 ((fun _ => 0) 3), .int .i64 ((fun _ => 0) 4), .int .i64 ((fun _ => 0) 5), .int .i64 ((fun _ => 0) 6), .int .i64 ((fun _ => 0) 7), .int .i64 ((fun _ => 0) 8), .int .i64 ((fun _ => 0) 9), .int .i64 ((fun _ => 0) 10), .int .i64 ((fun _ => 0) 11)] _ rfl rng Try.underlying24 rfl (by kernel_rfl)) rfl ⟨rfl, ?_⟩; exact bel
end Go.Proofs.Ytnohgfolejookaa
