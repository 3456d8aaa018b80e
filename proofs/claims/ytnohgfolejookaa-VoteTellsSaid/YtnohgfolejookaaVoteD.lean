
import Derived.Test.YtnohgfolejookaaRows
import Derived.Test.YtnohgfolejookaaVoteC
import Derived.Deep.Cut
import Derived.Deep.CutRange
import Derived.BigRegion
import Derived.StillTailTactics
namespace Go.Proofs.Ytnohgfolejookaa
set_option linter.unusedVariables false
set_option linter.unusedSimpArgs false
open Go.ChangeShapes Go.WideShapes Go.RowKit

theorem Calls.back {P : Program} {f : FuncId} {args : Array Value} {w : World} {v : Value} (h : Calls P f args w fun e w' => e = .returned v ∧ w = w') : Calls P f args w fun e w' => e = .returned v ∧ w' = w :=
  h.mono fun _ _ ⟨h1, h2⟩ => ⟨h1, h2.symm⟩
/-- One made right, when the first 'K' ages are. -/
def cleanK (n : Int) (f : Nat → Int) (K j : Nat) : Int := if j < K then Tally.clamp (f j) 0 (Vote.most n j) else f j
theorem cleanK_at (n : Int) (f : Nat → Int) (K : Nat) : cleanK n f K K = f K := if_neg (by omega)
theorem cleanK_next (n : Int) (f : Nat → Int) (K j : Nat) : cleanK n f (K + 1) j = if j = K then Tally.clamp (f K) 0 (Vote.most n K) else cleanK n f K j := by
  unfold cleanK
  by_cases e : j = K
  · subst e; rw [if_pos (by omega), if_pos rfl]
  · rw [if_neg e]
    by_cases e2 : j < K
    · rw [if_pos e2, if_pos (by omega)]
    · rw [if_neg e2, if_neg (by omega)]
theorem clean_yes {n : Int} {f : Nat → Int} (h : Conf.right n = true) (j : Nat) (hj : j < 12) : Vote.clean n f j = (if j = 11 then f 11 % n else if j = 10 then Tally.clamp (f 10) 0 (2 * n) else if j = 9 then Tally.clamp (f 9) 0 (2 * n + 1) else if j = 8 then f 8 % n else cleanK n f 8 j) := by
  unfold Vote.clean cleanK
  rw [if_pos h]
  rcases twelve hj with rfl | rfl | rfl | rfl | rfl | rfl | rfl | rfl | rfl | rfl | rfl | rfl <;> rfl
theorem clean_no {n : Int} {f : Nat → Int} (h : Conf.right n = false) (j : Nat) : Vote.clean n f j = 0 := by unfold Vote.clean; rw [h]; rfl
theorem refClamp_val (c l m x : Int) (h : Tally.clamp c l m = x) (w : World) :
    Calls Try.prog 26 #[.int .i64 c, .int .i64 l, .int .i64 m] w fun e w' => e = .returned (.int .i64 x) ∧ w = w' := by
  rw [← h]
  exact refClamp_any c l m w
set_option maxHeartbeats 4000000 in
theorem refVClean_any (n : Int) (f : Nat → Int) (w : World) :
    Calls Try.prog 9 #[.int .i64 n, .agg #[.int .i64 (f 0), .int .i64 (f 1), .int .i64 (f 2), .int .i64 (f 3), .int .i64 (f 4), .int .i64 (f 5), .int .i64 (f 6), .int .i64 (f 7), .int .i64 (f 8), .int .i64 (f 9), .int .i64 (f 10), .int .i64 (f 11)]] w fun e w' => e = .returned (.tuple #[.agg #[.int .i64 (Vote.clean n f 0), .int .i64 (Vote.clean n f 1), .int .i64 (Vote.clean n f 2), .int .i64 (Vote.clean n f 3), .int .i64 (Vote.clean n f 4), .int .i64 (Vote.clean n f 5), .int .i64 (Vote.clean n f 6), .int .i64 (Vote.clean n f 7), .int .i64 (Vote.clean n f 8), .int .i64 (Vote.clean n f 9), .int .i64 (Vote.clean n f 10), .int .i64 (Vote.clean n f 11)], .int .i64 (Vote.err n)]) ∧ Below w.heap.size w w' := by
  by_cases h : Conf.right n = true
  · have h38 := Conf.right_spec.1 h
    rw [Vote.err_yes h]
    have ht : Conf.tm n 2 = 2 * n := Conf.tm_yes h
    have CB := Lib.hid (fun w => refBlock_val n _ ht w)
    have HR := Lib.hid h
    have HG := Lib.hid (fun j hj => clean_yes (f := f) h j hj)
    generalize Vote.clean n f = g at *
    clear h ht
    have s2 : IntKind.i64.wrap (2 * n + 1) = 2 * n + 1 := IntWalk.i64_in _ (by omega)
    go_enter Try.func9, Try.ntmps9
    go_wp2_with fail
    refine (refCright_any _ _).mono ?_; rintro e w' ⟨rfl, rfl⟩
    rw [HR.out]
    go_wp2_with fail
    have HI := Lib.hid ((Ints.box w (cleanK n f 0) 24).alloc (.cells #[.int .i64 ((fun _ => (0 : Int)) 0), .int .i64 ((fun _ => (0 : Int)) 1), .int .i64 ((fun _ => (0 : Int)) 2), .int .i64 ((fun _ => (0 : Int)) 3), .int .i64 ((fun _ => (0 : Int)) 4), .int .i64 ((fun _ => (0 : Int)) 5), .int .i64 ((fun _ => (0 : Int)) 6), .int .i64 ((fun _ => (0 : Int)) 7), .int .i64 ((fun _ => (0 : Int)) 8), .int .i64 ((fun _ => (0 : Int)) 9), .int .i64 ((fun _ => (0 : Int)) 10), .int .i64 ((fun _ => (0 : Int)) 11)] 24))
    have HZ := Lib.hid (Ints.zeros (w.alloc (.cells #[.int .i64 (cleanK n f 0 0), .int .i64 (cleanK n f 0 1), .int .i64 (cleanK n f 0 2), .int .i64 (cleanK n f 0 3), .int .i64 (cleanK n f 0 4), .int .i64 (cleanK n f 0 5), .int .i64 (cleanK n f 0 6), .int .i64 (cleanK n f 0 7), .int .i64 (cleanK n f 0 8), .int .i64 (cleanK n f 0 9), .int .i64 (cleanK n f 0 10), .int .i64 (cleanK n f 0 11)] 24)) 24)
    go_loopw [6] (fun k wr => ∃ K : Nat, K ≤ 8 ∧ k = .int .i64 K ∧ Ints wr w.heap.size 12 (cleanK n f K) ∧ Ints wr (w.heap.size + 1) 12 (fun _ => 0) ∧ Below w.heap.size w wr) (fun k _ => 8 - (intOf k).toNat)
    case atStart =>
      refine ⟨0, by omega, rfl, ?_, ?_, bel⟩
      · simpa [cleanK] using HI.out
      · simpa [cleanK] using HZ.out
    case round =>
      clear HI HZ
      obtain ⟨K, hK, rfl, hI, hZ, hb⟩ := hrel
      have HB := Lib.hid hb
      have HI := Lib.hid hI
      have HZ := Lib.hid hZ
      by_cases hlt : K < 8
      · have h1 : (K : Int) < 8 := by omega
        have h0 : (0 : Int) ≤ K := by omega
        obtain ⟨c0, f0⟩ := hI.2 K (by omega)
        rw [cleanK_at] at c0
        have HN := Lib.hid (cleanK_next n f K)
        clear hb hI hZ
        by_cases hp : (K : Int) < n
        · rw [Vote.most_yes hp] at HN
          have CC := Lib.hid (fun w => refClamp_any (f K) 0 n w)
          generalize Tally.clamp (f K) 0 n = x at *
          go_wp2_with fail
          refine (CC.out _).mono ?_; rintro e w' ⟨rfl, rfl⟩
          go_wp2
          go_roundw
          case rel =>
            have := HB.out
            exact ⟨K + 1, by omega, by go_num, HI.out.set K x (by omega) _ HN.out, HZ.out.other _ _ _ (by omega), bel⟩
          case measure => simp [intOf]; omega
        · rw [Vote.most_no hp] at HN
          have CC := Lib.hid (fun w => refClamp_any (f K) 0 0 w)
          generalize Tally.clamp (f K) 0 0 = x at *
          go_wp2_with fail
          refine (CC.out _).mono ?_; rintro e w' ⟨rfl, rfl⟩
          go_wp2
          go_roundw
          case rel =>
            have := HB.out
            exact ⟨K + 1, by omega, by go_num, HI.out.set K x (by omega) _ HN.out, HZ.out.other _ _ _ (by omega), bel⟩
          case measure => simp [intOf]; omega
      · obtain rfl : K = 8 := by omega
        have C8 := Lib.hid (fun w => refMod_any n (f 8) (by omega) (by omega) w)
        have C11 := Lib.hid (fun w => refMod_any n (f 11) (by omega) (by omega) w)
        have C9 := Lib.hid (fun w => refClamp_any (f 9) 0 (2 * n + 1) w)
        have C10 := Lib.hid (fun w => refClamp_any (f 10) 0 (2 * n) w)
        clear hb
        generalize hq : cleanK n f 8 = q at *
        have HQ : Hid (q = cleanK n f 8) := hq.symm
        clear hq
        generalize f 8 % n = x8 at *
        generalize f 11 % n = x11 at *
        generalize Tally.clamp (f 9) 0 (2 * n + 1) = x9 at *
        generalize Tally.clamp (f 10) 0 (2 * n) = x10 at *
        obtain ⟨c8, f8⟩ := hI.2 8 (by decide)
        obtain ⟨c11, f11⟩ := hI.2 11 (by decide)
        rw [HQ.out, show cleanK n f 8 8 = f 8 from rfl] at c8
        rw [HQ.out, show cleanK n f 8 11 = f 11 from rfl] at c11
        have hz := hI.1
        clear hI hZ
        go_upto_region 10 with fail
        go_still_tail 9, (by kernel_rfl)
        still_call (Calls.back (C8.out _))
        repeat still_step
        still_call (Calls.back (C11.out _))
        repeat still_step
        refine wpStill_nil ?_
        change wpList _ _ _ _ _ wr.drew
        go_upto_region 11 with fail
        generalize hw1 : World.drew _ = w1
        have HI1 := Lib.hid (show Ints w1 w.heap.size 12 (fun j => if j = 11 then x11 else if j = 8 then x8 else q j) from by rw [← hw1]; exact (HI.out.set 8 x8 (by omega) _ (fun j => rfl)).set 11 x11 (by omega) _ (fun j => rfl))
        have HZ1 := Lib.hid (show Ints w1 (w.heap.size + 1) 12 (fun _ => 0) from by rw [← hw1]; exact (HZ.out.other _ _ _ (by omega)).other _ _ _ (by omega))
        have HB1 := Lib.hid (show Below w.heap.size w w1 from by have := HB.out; rw [← hw1]; exact bel)
        obtain ⟨c9, f9⟩ := HI1.out.2 9 (by decide)
        obtain ⟨c10, f10⟩ := HI1.out.2 10 (by decide)
        simp only [HQ.out, show (9 : Nat) = 11 ↔ False by decide, show (9 : Nat) = 8 ↔ False by decide, show (10 : Nat) = 11 ↔ False by decide, show (10 : Nat) = 8 ↔ False by decide, if_false, show cleanK n f 8 9 = f 9 from rfl, show cleanK n f 8 10 = f 10 from rfl] at c9 c10
        clear hw1 c8 c11 f8 f11 HI HZ HB
        go_still_tail 12, (by kernel_rfl)
        still_call (CB.out _)
        repeat still_step
        still_call (Calls.back (C9.out _))
        repeat still_step
        still_call (CB.out _)
        repeat still_step
        still_call (Calls.back (C10.out _))
        repeat still_step
        refine wpStill_nil ?_
        change wpList _ _ _ _ _ w1.drew
        go_upto_region 12 with fail
        generalize hw2 : World.drew _ = w2
        have HI2 := Lib.hid (show Ints w2 w.heap.size 12 g from by
          rw [← hw2]
          refine ((HI1.out.set 9 x9 (by omega) _ (fun j => rfl)).set 10 x10 (by omega) (fun j => if j = 10 then x10 else if j = 9 then x9 else if j = 11 then x11 else if j = 8 then x8 else q j) (fun j => rfl)).like (fun j hj => ?_)
          rw [HG.out j hj]
          rcases twelve hj with rfl | rfl | rfl | rfl | rfl | rfl | rfl | rfl | rfl | rfl | rfl | rfl <;> rfl)
        have HZ2 := Lib.hid (show Ints w2 (w.heap.size + 1) 12 (fun _ => 0) from by rw [← hw2]; exact (HZ1.out.other _ _ _ (by omega)).other _ _ _ (by omega))
        have HB2 := Lib.hid (show Below w.heap.size w w2 from by have := HB1.out; rw [← hw2]; exact bel)
        clear hw2 c9 f9 c10 f10 HI1 HZ1 HB1
        have HI2_c0 := (HI2.out.2 0 (by decide)).1; have HI2_c1 := (HI2.out.2 1 (by decide)).1; have HI2_c2 := (HI2.out.2 2 (by decide)).1; have HI2_c3 := (HI2.out.2 3 (by decide)).1; have HI2_c4 := (HI2.out.2 4 (by decide)).1; have HI2_c5 := (HI2.out.2 5 (by decide)).1; have HI2_c6 := (HI2.out.2 6 (by decide)).1; have HI2_c7 := (HI2.out.2 7 (by decide)).1; have HI2_c8 := (HI2.out.2 8 (by decide)).1; have HI2_c9 := (HI2.out.2 9 (by decide)).1; have HI2_c10 := (HI2.out.2 10 (by decide)).1; have HI2_c11 := (HI2.out.2 11 (by decide)).1; have HI2_z := HI2.out.1
        have HZ2_r := HZ2.out.row12; have HZ2_c0 := (HZ2.out.2 0 (by decide)).1; have HZ2_f0 := (HZ2.out.2 0 (by decide)).2; have HZ2_c1 := (HZ2.out.2 1 (by decide)).1; have HZ2_f1 := (HZ2.out.2 1 (by decide)).2; have HZ2_c2 := (HZ2.out.2 2 (by decide)).1; have HZ2_f2 := (HZ2.out.2 2 (by decide)).2; have HZ2_c3 := (HZ2.out.2 3 (by decide)).1; have HZ2_f3 := (HZ2.out.2 3 (by decide)).2; have HZ2_c4 := (HZ2.out.2 4 (by decide)).1; have HZ2_f4 := (HZ2.out.2 4 (by decide)).2; have HZ2_c5 := (HZ2.out.2 5 (by decide)).1; have HZ2_f5 := (HZ2.out.2 5 (by decide)).2; have HZ2_c6 := (HZ2.out.2 6 (by decide)).1; have HZ2_f6 := (HZ2.out.2 6 (by decide)).2; have HZ2_c7 := (HZ2.out.2 7 (by decide)).1; have HZ2_f7 := (HZ2.out.2 7 (by decide)).2; have HZ2_c8 := (HZ2.out.2 8 (by decide)).1; have HZ2_f8 := (HZ2.out.2 8 (by decide)).2; have HZ2_c9 := (HZ2.out.2 9 (by decide)).1; have HZ2_f9 := (HZ2.out.2 9 (by decide)).2; have HZ2_c10 := (HZ2.out.2 10 (by decide)).1; have HZ2_f10 := (HZ2.out.2 10 (by decide)).2; have HZ2_c11 := (HZ2.out.2 11 (by decide)).1; have HZ2_f11 := (HZ2.out.2 11 (by decide)).2; have HZ2_z := HZ2.out.1
        have := HB2.out
        go_wp2
        refine bodyPost_ret (ret_cell_tmp Try.results9 (w.heap.size + 1) [.int .i64 ((g) 0), .int .i64 ((g) 1), .int .i64 ((g) 2), .int .i64 ((g) 3), .int .i64 ((g) 4), .int .i64 ((g) 5), .int .i64 ((g) 6), .int .i64 ((g) 7), .int .i64 ((g) 8), .int .i64 ((g) 9), .int .i64 ((g) 10), .int .i64 ((g) 11)] _ rfl rng Try.underlying24 rfl (by kernel_rfl)) rfl ⟨rfl, ?_⟩; exact bel
  · have h := Bool.eq_false_iff.2 h
    rw [Vote.err_no h]
    simp only [clean_no h]
    go_enter Try.func9, Try.ntmps9
    go_wp2_with fail
    refine (refCright_any _ _).mono ?_; rintro e w' ⟨rfl, rfl⟩
    rw [h]
    go_wp2
    refine bodyPost_ret (ret_cell_tmp Try.results9 (w.heap.size + 1) [.int .i64 ((fun _ => 0) 0), .int .i64 ((fun _ => 0) 1), .int .i64 ((fun _ => 0) 2), .int .i64 ((fun _ => 0) 3), .int .i64 ((fun _ => 0) 4), .int .i64 ((fun _ => 0) 5), .int .i64 ((fun _ => 0) 6), .int .i64 ((fun _ => 0) 7), .int .i64 ((fun _ => 0) 8), .int .i64 ((fun _ => 0) 9), .int .i64 ((fun _ => 0) 10), .int .i64 ((fun _ => 0) 11)] _ rfl rng Try.underlying24 rfl (by kernel_rfl)) rfl ⟨rfl, ?_⟩; exact bel
end Go.Proofs.Ytnohgfolejookaa
