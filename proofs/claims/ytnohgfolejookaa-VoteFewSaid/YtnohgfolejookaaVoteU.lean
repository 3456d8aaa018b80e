
import Derived.Test.YtnohgfolejookaaRows
import Derived.Test.YtnohgfolejookaaVoteT
namespace Go.Proofs.Ytnohgfolejookaa
set_option linter.unusedVariables false
set_option linter.unusedSimpArgs false
open Go.ChangeShapes Go.WideShapes Go.RowKit

theorem tick_end {n : Int} {f : Nat → Int} (h : Vote.Ok n f) (j : Nat) (hj : j < 12) :
    (if j = 11 then (f 11 + 1) % n else if j = 10 then Tally.down (f 10) else stK (fun j => Tally.up (f j) (ms n (idx j))) f 9 j) = Vote.tick n f j := by
  rw [stK_end]
  by_cases e : j < 8
  · rw [if_neg (show ¬ j = 11 by omega), if_neg (show ¬ j = 10 by omega), if_pos e, ms_port n e, Vote.tick_age h e]
    by_cases hp : (j : Int) < n
    · rw [if_pos hp, Vote.most_yes hp]
    · have := h.2.1 j e
      rw [Vote.most_no hp] at this
      rw [if_neg hp, Vote.most_no hp, Vote.up_min this]
      omega
  · have h4 : j = 8 ∨ j = 9 ∨ j = 10 ∨ j = 11 := by omega
    rcases h4 with rfl | rfl | rfl | rfl
    · rw [Vote.tick_8 h]; rfl
    · rw [Vote.tick_9 h]; rfl
    · rw [Vote.tick_10 h]; rfl
    · rw [Vote.tick_11 h]; rfl
set_option maxHeartbeats 4000000 in
theorem vTick_any (n : Int) (f : Nat → Int) (w : World) (hf : Bd12 f) :
    Calls Try.prog 12 #[.int .i64 n, .agg #[.int .i64 (f 0), .int .i64 (f 1), .int .i64 (f 2), .int .i64 (f 3), .int .i64 (f 4), .int .i64 (f 5), .int .i64 (f 6), .int .i64 (f 7), .int .i64 (f 8), .int .i64 (f 9), .int .i64 (f 10), .int .i64 (f 11)]] w fun e w' => e = .returned (.tuple #[.agg #[.int .i64 (Vote.tick n f 0), .int .i64 (Vote.tick n f 1), .int .i64 (Vote.tick n f 2), .int .i64 (Vote.tick n f 3), .int .i64 (Vote.tick n f 4), .int .i64 (Vote.tick n f 5), .int .i64 (Vote.tick n f 6), .int .i64 (Vote.tick n f 7), .int .i64 (Vote.tick n f 8), .int .i64 (Vote.tick n f 9), .int .i64 (Vote.tick n f 10), .int .i64 (Vote.tick n f 11)], .int .i64 (Vote.tickErr n f)]) ∧ Below w.heap.size w w' := by
  have CR := Lib.hid (fun w => vRight_any n f w hf)
  by_cases h : Vote.ok n f = true
  · have hok := Vote.ok_iff.1 h
    have h38 := hok.1
    rw [tickErr_yes h]
    rw [h] at CR
    have HE := Lib.hid (fun j hj => tick_end hok j hj)
    have CA := Lib.hid (fun b w => ages_any n b w (Conf.right_spec.2 h38))
    have HF := Lib.hid hf
    have HOK := Lib.hid hok
    generalize Vote.tick n f = g at *
    clear h hf hok
    go_enter Try.func12, Try.ntmps12
    go_upto_region 1 with fail
    have HI := Lib.hid ((Ints.box w f 24).alloc (.cells #[.int .i64 ((fun _ => (0 : Int)) 0), .int .i64 ((fun _ => (0 : Int)) 1), .int .i64 ((fun _ => (0 : Int)) 2), .int .i64 ((fun _ => (0 : Int)) 3), .int .i64 ((fun _ => (0 : Int)) 4), .int .i64 ((fun _ => (0 : Int)) 5), .int .i64 ((fun _ => (0 : Int)) 6), .int .i64 ((fun _ => (0 : Int)) 7), .int .i64 ((fun _ => (0 : Int)) 8), .int .i64 ((fun _ => (0 : Int)) 9), .int .i64 ((fun _ => (0 : Int)) 10), .int .i64 ((fun _ => (0 : Int)) 11)] 24))
    have HZ := Lib.hid (Ints.zeros (w.alloc (.cells #[.int .i64 (f 0), .int .i64 (f 1), .int .i64 (f 2), .int .i64 (f 3), .int .i64 (f 4), .int .i64 (f 5), .int .i64 (f 6), .int .i64 (f 7), .int .i64 (f 8), .int .i64 (f 9), .int .i64 (f 10), .int .i64 (f 11)] 24)) 24)
    have HB := Lib.hid (show Below w.heap.size w ((w.alloc (.cells #[.int .i64 (f 0), .int .i64 (f 1), .int .i64 (f 2), .int .i64 (f 3), .int .i64 (f 4), .int .i64 (f 5), .int .i64 (f 6), .int .i64 (f 7), .int .i64 (f 8), .int .i64 (f 9), .int .i64 (f 10), .int .i64 (f 11)] 24)).alloc (.cells #[.int .i64 ((fun _ => (0 : Int)) 0), .int .i64 ((fun _ => (0 : Int)) 1), .int .i64 ((fun _ => (0 : Int)) 2), .int .i64 ((fun _ => (0 : Int)) 3), .int .i64 ((fun _ => (0 : Int)) 4), .int .i64 ((fun _ => (0 : Int)) 5), .int .i64 ((fun _ => (0 : Int)) 6), .int .i64 ((fun _ => (0 : Int)) 7), .int .i64 ((fun _ => (0 : Int)) 8), .int .i64 ((fun _ => (0 : Int)) 9), .int .i64 ((fun _ => (0 : Int)) 10), .int .i64 ((fun _ => (0 : Int)) 11)] 24)) from bel)
    rw [World.size_alloc] at HZ
    generalize hwa : World.alloc (World.alloc w _) _ = wa at *
    clear hwa
    have HI_c0 := (HI.out.2 0 (by decide)).1; have HI_c1 := (HI.out.2 1 (by decide)).1; have HI_c2 := (HI.out.2 2 (by decide)).1; have HI_c3 := (HI.out.2 3 (by decide)).1; have HI_c4 := (HI.out.2 4 (by decide)).1; have HI_c5 := (HI.out.2 5 (by decide)).1; have HI_c6 := (HI.out.2 6 (by decide)).1; have HI_c7 := (HI.out.2 7 (by decide)).1; have HI_c8 := (HI.out.2 8 (by decide)).1; have HI_c9 := (HI.out.2 9 (by decide)).1; have HI_c10 := (HI.out.2 10 (by decide)).1; have HI_c11 := (HI.out.2 11 (by decide)).1; have HI_z := HI.out.1
    go_wp2_with fail
    refine (CR.out _).mono ?_; rintro e w0 ⟨rfl, hb⟩; have hz := hb.size; (try simp only [World.size_alloc, World.heap_drewN, World.size_drew, World.size_setCell] at hz)
    have HB0 := Lib.hid (show Below w.heap.size w w0 from by have := HB.out; exact bel)
    have HI0 := Lib.hid (HI.out.below hb)
    have HZ0 := Lib.hid (HZ.out.below hb)
    clear hb
    clear HI_c0 HI_c1 HI_c2 HI_c3 HI_c4 HI_c5 HI_c6 HI_c7 HI_c8 HI_c9 HI_c10 HI_c11 HI_z
    clear HI HZ HB
    have hz1 := HZ0.out.1
    go_wp2_with fail
    refine (CA.out _ _).mono ?_; rintro e w1 ⟨rfl, hb⟩; have hz := hb.size; (try simp only [World.size_alloc, World.heap_drewN, World.size_drew, World.size_setCell] at hz)
    have HB1 := Lib.hid (show Below w.heap.size w w1 from by have := HB0.out; exact bel)
    have HI1 := Lib.hid (HI0.out.below hb)
    have HZ1 := Lib.hid (HZ0.out.below hb)
    clear hb HI0 HZ0 HB0
    go_wp2_with fail
    go_loopw [15] (fun k wr => ∃ K : Nat, K ≤ 9 ∧ k = .int .i64 K ∧ Ints wr w.heap.size 12 (stK (fun j => Tally.up (f j) (ms n (idx j))) f K) ∧ Ints wr (w.heap.size + 1) 12 (fun _ => 0) ∧ Below w.heap.size w wr) (fun k _ => 9 - (intOf k).toNat)
    case atStart =>
      refine ⟨0, by omega, rfl, ?_, HZ1.out, HB1.out⟩
      rw [stK_zero]
      exact HI1.out
    case round =>
      clear HI1 HZ1 HB1
      obtain ⟨K, hK, rfl, hI, hZ, hb⟩ := hrel
      have HB := Lib.hid hb
      have HI := Lib.hid hI
      have HZ := Lib.hid hZ
      clear hb hI hZ
      by_cases hlt : K < 9
      · have h1 : (K : Int) < 9 := by omega
        have ha := ages_index w.heap.size (ms n) hlt
        have HN := Lib.hid (stK_next (fun j => Tally.up (f j) (ms n (idx j))) f hlt)
        rw [idx_pl hlt] at HN
        have hp := pl_lt hlt
        have hm := ms_in h38 K
        have hat := stK_at (fun j => Tally.up (f j) (ms n (idx j))) f hlt
        generalize ms n K = x at *
        generalize pl K = q at *
        have hfq := HF.out q hp
        have CC := Lib.hid (fun w => up_any (f q) x (by omega) (by omega) w)
        generalize Tally.up (f q) x = y at *
        go_upto_region 6 with fail
        obtain ⟨c0, c1⟩ := two_new wr (.pointer (some ⟨w.heap.size, q, none⟩)) (.int .i64 x) 39
        have HI2 := Lib.hid (HI.out.alloc (.cells #[.pointer (some ⟨w.heap.size, q, none⟩), .int .i64 x] 39))
        have HZ2 := Lib.hid (HZ.out.alloc (.cells #[.pointer (some ⟨w.heap.size, q, none⟩), .int .i64 x] 39))
        have HB2 := Lib.hid (show Below w.heap.size w (wr.alloc (.cells #[.pointer (some ⟨w.heap.size, q, none⟩), .int .i64 x] 39)) from by have := HB.out; exact bel)
        generalize World.alloc wr _ = wa2 at *
        clear HI HZ HB
        obtain ⟨cq, fq⟩ := HI2.out.2 q hp
        rw [hat] at cq
        generalize f q = fv at *
        clear hat
        go_still_tail 10, (by kernel_rfl)
        repeat still_step
        still_call (Calls.back (CC.out _))
        repeat still_step
        refine wpStill_nil ?_
        change wpList _ _ _ _ _ wa2.drew
        go_wp2
        go_roundw
        case rel =>
          have := HB2.out
          exact ⟨K + 1, by omega, by go_num, (show Ints wa2.drew _ _ _ from HI2.out).set q y hp _ HN.out, (show Ints wa2.drew _ _ _ from HZ2.out).other _ _ _ (by omega), bel⟩
        case measure => simp [intOf]; omega
      · obtain rfl : K = 9 := by omega
        have E10 := Lib.hid (stK_end (fun j => Tally.up (f j) (ms n (idx j))) f 10)
        have E11 := Lib.hid (stK_end (fun j => Tally.up (f j) (ms n (idx j))) f 11)
        simp only [show ¬ (10 : Nat) < 8 by decide, show ¬ (10 : Nat) = 9 by decide, show ¬ (11 : Nat) < 8 by decide, show ¬ (11 : Nat) = 9 by decide, if_false] at E10 E11
        generalize stK (fun j => Tally.up (f j) (ms n (idx j))) f 9 = s at *
        obtain ⟨-, -, k8, k9, k10, k11⟩ := HOK.out
        have CD := Lib.hid (fun w => down_any (f 10) (by omega) w)
        have CN := Lib.hid (fun w => next_any n (f 11) (by omega) (by omega) (by omega) (by omega) w)
        clear k8 k9 k10 k11
        generalize Tally.down (f 10) = x10 at *
        generalize (f 11 + 1) % n = x11 at *
        have c10 : wr.cell? ⟨w.heap.size, 10, none⟩ = some (.int .i64 (f 10)) := by rw [← E10.out]; exact (HI.out.2 10 (by decide)).1
        have c11 : wr.cell? ⟨w.heap.size, 11, none⟩ = some (.int .i64 (f 11)) := by rw [← E11.out]; exact (HI.out.2 11 (by decide)).1
        have f10 := (HI.out.2 10 (by decide)).2
        have f11 := (HI.out.2 11 (by decide)).2
        have hz := HI.out.1
        go_wp2_with fail
        refine (CD.out _).mono ?_; rintro e w' ⟨rfl, rfl⟩
        go_wp2_with fail
        refine (CN.out _).mono ?_; rintro e w' ⟨rfl, rfl⟩
        go_upto_region 10 with fail
        generalize hw4 : World.setCell _ _ _ = w4
        have HI4 := Lib.hid (show Ints w4 w.heap.size 12 g from by
          rw [← hw4]
          refine ((HI.out.set 10 x10 (by decide) _ (fun j => rfl)).set 11 x11 (by decide) (fun j => if j = 11 then x11 else if j = 10 then x10 else s j) (fun j => rfl)).like (fun j hj => ?_)
          exact HE.out j hj)
        have HZ4 := Lib.hid (show Ints w4 (w.heap.size + 1) 12 (fun _ => 0) from by rw [← hw4]; exact (HZ.out.other _ _ _ (by omega)).other _ _ _ (by omega))
        have HB4 := Lib.hid (show Below w.heap.size w w4 from by have := HB.out; rw [← hw4]; exact bel)
        clear hw4 c10 f10 c11 f11 HI HZ HB
        have HI4_c0 := (HI4.out.2 0 (by decide)).1; have HI4_c1 := (HI4.out.2 1 (by decide)).1; have HI4_c2 := (HI4.out.2 2 (by decide)).1; have HI4_c3 := (HI4.out.2 3 (by decide)).1; have HI4_c4 := (HI4.out.2 4 (by decide)).1; have HI4_c5 := (HI4.out.2 5 (by decide)).1; have HI4_c6 := (HI4.out.2 6 (by decide)).1; have HI4_c7 := (HI4.out.2 7 (by decide)).1; have HI4_c8 := (HI4.out.2 8 (by decide)).1; have HI4_c9 := (HI4.out.2 9 (by decide)).1; have HI4_c10 := (HI4.out.2 10 (by decide)).1; have HI4_c11 := (HI4.out.2 11 (by decide)).1; have HI4_z := HI4.out.1
        have HZ4_r := HZ4.out.row12; have HZ4_c0 := (HZ4.out.2 0 (by decide)).1; have HZ4_f0 := (HZ4.out.2 0 (by decide)).2; have HZ4_c1 := (HZ4.out.2 1 (by decide)).1; have HZ4_f1 := (HZ4.out.2 1 (by decide)).2; have HZ4_c2 := (HZ4.out.2 2 (by decide)).1; have HZ4_f2 := (HZ4.out.2 2 (by decide)).2; have HZ4_c3 := (HZ4.out.2 3 (by decide)).1; have HZ4_f3 := (HZ4.out.2 3 (by decide)).2; have HZ4_c4 := (HZ4.out.2 4 (by decide)).1; have HZ4_f4 := (HZ4.out.2 4 (by decide)).2; have HZ4_c5 := (HZ4.out.2 5 (by decide)).1; have HZ4_f5 := (HZ4.out.2 5 (by decide)).2; have HZ4_c6 := (HZ4.out.2 6 (by decide)).1; have HZ4_f6 := (HZ4.out.2 6 (by decide)).2; have HZ4_c7 := (HZ4.out.2 7 (by decide)).1; have HZ4_f7 := (HZ4.out.2 7 (by decide)).2; have HZ4_c8 := (HZ4.out.2 8 (by decide)).1; have HZ4_f8 := (HZ4.out.2 8 (by decide)).2; have HZ4_c9 := (HZ4.out.2 9 (by decide)).1; have HZ4_f9 := (HZ4.out.2 9 (by decide)).2; have HZ4_c10 := (HZ4.out.2 10 (by decide)).1; have HZ4_f10 := (HZ4.out.2 10 (by decide)).2; have HZ4_c11 := (HZ4.out.2 11 (by decide)).1; have HZ4_f11 := (HZ4.out.2 11 (by decide)).2; have HZ4_z := HZ4.out.1
        have := HB4.out
        go_wp2
        refine bodyPost_ret (ret_cell_tmp Try.results12 (w.heap.size + 1) [.int .i64 ((g) 0), .int .i64 ((g) 1), .int .i64 ((g) 2), .int .i64 ((g) 3), .int .i64 ((g) 4), .int .i64 ((g) 5), .int .i64 ((g) 6), .int .i64 ((g) 7), .int .i64 ((g) 8), .int .i64 ((g) 9), .int .i64 ((g) 10), .int .i64 ((g) 11)] _ rfl rng Try.underlying24 rfl (by kernel_rfl)) rfl ⟨rfl, ?_⟩; exact bel
  · have h := Bool.eq_false_iff.2 h
    rw [tickErr_no h]
    rw [h] at CR
    simp only [tick_no h]
    go_enter Try.func12, Try.ntmps12
    go_wp2_with fail
    refine (CR.out _).mono ?_; rintro e w1 ⟨rfl, hb⟩; have hz := hb.size; (try simp only [World.size_alloc, World.heap_drewN, World.size_drew, World.size_setCell] at hz)
    have HB1 := Lib.hid (show Below w.heap.size w w1 from bel)
    have HZ := Lib.hid ((Ints.zeros (w.alloc (.cells #[.int .i64 (f 0), .int .i64 (f 1), .int .i64 (f 2), .int .i64 (f 3), .int .i64 (f 4), .int .i64 (f 5), .int .i64 (f 6), .int .i64 (f 7), .int .i64 (f 8), .int .i64 (f 9), .int .i64 (f 10), .int .i64 (f 11)] 24)) 24).below hb)
    rw [World.size_alloc] at HZ
    clear hb
    have HZ_r := HZ.out.row12; have HZ_c0 := (HZ.out.2 0 (by decide)).1; have HZ_f0 := (HZ.out.2 0 (by decide)).2; have HZ_c1 := (HZ.out.2 1 (by decide)).1; have HZ_f1 := (HZ.out.2 1 (by decide)).2; have HZ_c2 := (HZ.out.2 2 (by decide)).1; have HZ_f2 := (HZ.out.2 2 (by decide)).2; have HZ_c3 := (HZ.out.2 3 (by decide)).1; have HZ_f3 := (HZ.out.2 3 (by decide)).2; have HZ_c4 := (HZ.out.2 4 (by decide)).1; have HZ_f4 := (HZ.out.2 4 (by decide)).2; have HZ_c5 := (HZ.out.2 5 (by decide)).1; have HZ_f5 := (HZ.out.2 5 (by decide)).2; have HZ_c6 := (HZ.out.2 6 (by decide)).1; have HZ_f6 := (HZ.out.2 6 (by decide)).2; have HZ_c7 := (HZ.out.2 7 (by decide)).1; have HZ_f7 := (HZ.out.2 7 (by decide)).2; have HZ_c8 := (HZ.out.2 8 (by decide)).1; have HZ_f8 := (HZ.out.2 8 (by decide)).2; have HZ_c9 := (HZ.out.2 9 (by decide)).1; have HZ_f9 := (HZ.out.2 9 (by decide)).2; have HZ_c10 := (HZ.out.2 10 (by decide)).1; have HZ_f10 := (HZ.out.2 10 (by decide)).2; have HZ_c11 := (HZ.out.2 11 (by decide)).1; have HZ_f11 := (HZ.out.2 11 (by decide)).2; have HZ_z := HZ.out.1
    have := HB1.out
    go_wp2
    refine bodyPost_ret (ret_cell_tmp Try.results12 (w.heap.size + 1) [.int .i64 ((fun _ => 0) 0), .int .i64 ((fun _ => 0) 1), .int .i64 ((fun _ => 0) 2), .int .i64 ((fun _ => 0) 3), .int .i64 ((fun _ => 0) 4), .int .i64 ((fun _ => 0) 5), .int .i64 ((fun _ => 0) 6), .int .i64 ((fun _ => 0) 7), .int .i64 ((fun _ => 0) 8), .int .i64 ((fun _ => 0) 9), .int .i64 ((fun _ => 0) 10), .int .i64 ((fun _ => 0) 11)] _ rfl rng Try.underlying24 rfl (by kernel_rfl)) rfl ⟨rfl, ?_⟩; exact bel
end Go.Proofs.Ytnohgfolejookaa
