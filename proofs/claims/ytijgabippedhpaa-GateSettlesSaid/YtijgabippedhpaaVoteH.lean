
import Derived.Test.YtijgabippedhpaaRows
import Derived.Test.YtijgabippedhpaaVoteG
namespace Go.Proofs.Ytijgabippedhpaa
set_option linter.unusedVariables false
set_option linter.unusedSimpArgs false
open Go.ChangeShapes Go.WideShapes Go.RowKit

theorem bestK_next (n : Int) (f : Nat → Int) (K : Nat) : Vote.bestK n f (K + 1) = if Vote.votes n f (Vote.bestK n f K : Nat) < Vote.votes n f (K : Nat) then K else Vote.bestK n f K := rfl
theorem best_yes {m : Nat} {f : Nat → Int} (h : Vote.ok m f = true) : Vote.best m f = Vote.bestK m f m ∧ Vote.bestVotes m f = Vote.votes m f (Vote.bestK m f m : Nat) := by
  unfold Vote.bestVotes Vote.best
  rw [if_pos h, if_pos h]
  exact ⟨rfl, rfl⟩
theorem best_no {n : Int} {f : Nat → Int} (h : Vote.ok n f = false) : Vote.best n f = 0 ∧ Vote.bestVotes n f = 0 := by
  unfold Vote.bestVotes Vote.best
  rw [h]
  exact ⟨rfl, rfl⟩
set_option maxHeartbeats 2000000 in
theorem refVBest_any (n : Int) (f : Nat → Int) (w : World) :
    Calls Try.prog 17 #[.int .i64 n, .agg #[.int .i64 (f 0), .int .i64 (f 1), .int .i64 (f 2), .int .i64 (f 3), .int .i64 (f 4), .int .i64 (f 5), .int .i64 (f 6), .int .i64 (f 7), .int .i64 (f 8), .int .i64 (f 9), .int .i64 (f 10), .int .i64 (f 11)]] w fun e w' => e = .returned (.tuple #[.int .i64 (Vote.best n f : Nat), .int .i64 (Vote.bestVotes n f : Nat)]) ∧ Below w.heap.size w w' := by
  by_cases h : Vote.ok n f = true
  · have hok := Vote.ok_iff.1 h
    have h38 := hok.1
    obtain ⟨m, rfl⟩ := Int.eq_ofNat_of_zero_le (show 0 ≤ n by omega)
    rw [(best_yes h).1, (best_yes h).2]
    have HR := Lib.hid h
    clear h hok
    go_enter Try.func17, Try.ntmps17
    go_wp2_with fail
    have HI := Lib.hid (Ints.box w f 24)
    go_loopw [6, 7] (fun q k wr => ∃ K : Nat, K ≤ m ∧ k = .int .i64 K ∧ q = .int .i64 (Vote.bestK m f K : Nat) ∧ Ints wr w.heap.size 12 f ∧ Below w.heap.size w wr) (fun _ k _ => m - (intOf k).toNat)
    case atStart => exact ⟨0, by omega, rfl, rfl, HI.out, bel⟩
    case round =>
      clear HI
      obtain ⟨K, hK, rfl, rfl, hI, hb⟩ := hrel
      have HB := Lib.hid hb
      have HI := Lib.hid hI
      clear hb hI
      have HI_c0 := (HI.out.2 0 (by decide)).1; have HI_c1 := (HI.out.2 1 (by decide)).1; have HI_c2 := (HI.out.2 2 (by decide)).1; have HI_c3 := (HI.out.2 3 (by decide)).1; have HI_c4 := (HI.out.2 4 (by decide)).1; have HI_c5 := (HI.out.2 5 (by decide)).1; have HI_c6 := (HI.out.2 6 (by decide)).1; have HI_c7 := (HI.out.2 7 (by decide)).1; have HI_c8 := (HI.out.2 8 (by decide)).1; have HI_c9 := (HI.out.2 9 (by decide)).1; have HI_c10 := (HI.out.2 10 (by decide)).1; have HI_c11 := (HI.out.2 11 (by decide)).1; have HI_z := HI.out.1
      go_wp2_with fail
      refine (refVRight_any m f _).mono ?_
      rintro e w1 ⟨rfl, hb⟩
      rw [HR.out]
      have hz := hb.size
      (try simp only [World.size_alloc, World.heap_drewN, World.size_drew, World.size_setCell] at hz)
      have HB1 := Lib.hid (show Below w.heap.size w w1 from by have := HB.out; exact bel)
      have HI1 := Lib.hid (HI.out.below hb)
      clear hb HI HB
      clear HI_c0 HI_c1 HI_c2 HI_c3 HI_c4 HI_c5 HI_c6 HI_c7 HI_c8 HI_c9 HI_c10 HI_c11 HI_z
      have hbk := Vote.bestK_le m f K
      have HN := Lib.hid (bestK_next m f K)
      by_cases hlt : K < m
      · have h1 : (K : Int) < m := by omega
        have h0 : (0 : Int) ≤ K := by omega
        have CV := Lib.hid (fun w => refVVotes_any m f (K : Nat) w)
        have CB := Lib.hid (fun w => refVVotes_any m f (Vote.bestK m f K : Nat) w)
        generalize Vote.votes m f (K : Nat) = x at *
        generalize Vote.votes m f (Vote.bestK m f K : Nat) = y at *
        generalize Vote.bestK m f K = z at *
        go_upto_region 5 with fail
        refine region_below (by kernel_rfl) (by kernel_rfl) ?_; intro wR HW
        have HBR := Lib.hid (show Below w.heap.size w wR from by have := HB1.out; rw [← HW.out]; exact bel)
        have HIR := Lib.hid (show Ints wR w.heap.size 12 f from by rw [← HW.out]; exact HI1.out)
        have HIR_c0 := (HIR.out.2 0 (by decide)).1; have HIR_c1 := (HIR.out.2 1 (by decide)).1; have HIR_c2 := (HIR.out.2 2 (by decide)).1; have HIR_c3 := (HIR.out.2 3 (by decide)).1; have HIR_c4 := (HIR.out.2 4 (by decide)).1; have HIR_c5 := (HIR.out.2 5 (by decide)).1; have HIR_c6 := (HIR.out.2 6 (by decide)).1; have HIR_c7 := (HIR.out.2 7 (by decide)).1; have HIR_c8 := (HIR.out.2 8 (by decide)).1; have HIR_c9 := (HIR.out.2 9 (by decide)).1; have HIR_c10 := (HIR.out.2 10 (by decide)).1; have HIR_c11 := (HIR.out.2 11 (by decide)).1; have HIR_z := HIR.out.1
        replace HIR_c0 := cell_regrown HIR_c0; replace HIR_c1 := cell_regrown HIR_c1; replace HIR_c2 := cell_regrown HIR_c2; replace HIR_c3 := cell_regrown HIR_c3; replace HIR_c4 := cell_regrown HIR_c4; replace HIR_c5 := cell_regrown HIR_c5; replace HIR_c6 := cell_regrown HIR_c6; replace HIR_c7 := cell_regrown HIR_c7; replace HIR_c8 := cell_regrown HIR_c8; replace HIR_c9 := cell_regrown HIR_c9; replace HIR_c10 := cell_regrown HIR_c10; replace HIR_c11 := cell_regrown HIR_c11
        (repeat (first | go_big_quiet_step (first | with_reducible exact Calls.regrown_of (CV.out _) | with_reducible exact Calls.regrown_of (CB.out _)) | quiet_step (first | with_reducible exact Calls.regrown_of (CV.out _) | with_reducible exact Calls.regrown_of (CB.out _)))); refine wpQuiet_nil ?_; intro w2 hb2
        have HB2 := Lib.hid (show Below w.heap.size w w2 from by have := HBR.out; exact bthru hb2 this)
        have HI2 := Lib.hid (HIR.out.below hb2)
        clear hb2 HBR HIR
        clear HIR_c0 HIR_c1 HIR_c2 HIR_c3 HIR_c4 HIR_c5 HIR_c6 HIR_c7 HIR_c8 HIR_c9 HIR_c10 HIR_c11 HIR_z
        by_cases hxy : (y : Int) < x
        · go_wp2
          go_roundw
          case rel => exact ⟨K + 1, by omega, by go_num, by rw [HN.out, if_pos (by omega)], HI2.out, HB2.out⟩
          case measure => simp [intOf]; omega
        · go_wp2
          go_roundw
          case rel => exact ⟨K + 1, by omega, by go_num, by rw [HN.out, if_neg (by omega)], HI2.out, HB2.out⟩
          case measure => simp [intOf]; omega
      · obtain rfl : K = m := by omega
        clear HN
        have HI1_c0 := (HI1.out.2 0 (by decide)).1; have HI1_c1 := (HI1.out.2 1 (by decide)).1; have HI1_c2 := (HI1.out.2 2 (by decide)).1; have HI1_c3 := (HI1.out.2 3 (by decide)).1; have HI1_c4 := (HI1.out.2 4 (by decide)).1; have HI1_c5 := (HI1.out.2 5 (by decide)).1; have HI1_c6 := (HI1.out.2 6 (by decide)).1; have HI1_c7 := (HI1.out.2 7 (by decide)).1; have HI1_c8 := (HI1.out.2 8 (by decide)).1; have HI1_c9 := (HI1.out.2 9 (by decide)).1; have HI1_c10 := (HI1.out.2 10 (by decide)).1; have HI1_c11 := (HI1.out.2 11 (by decide)).1; have HI1_z := HI1.out.1
        go_wp2_with fail
        refine (refVRight_any K f _).mono ?_
        rintro e w2 ⟨rfl, hb⟩
        rw [HR.out]
        have hz := hb.size
        (try simp only [World.size_alloc, World.heap_drewN, World.size_drew, World.size_setCell] at hz)
        have HB2 := Lib.hid (show Below w.heap.size w w2 from by have := HB1.out; exact bel)
        have HI2 := Lib.hid (HI1.out.below hb)
        clear hb HI1 HB1
        clear HI1_c0 HI1_c1 HI1_c2 HI1_c3 HI1_c4 HI1_c5 HI1_c6 HI1_c7 HI1_c8 HI1_c9 HI1_c10 HI1_c11 HI1_z
        have HI2_c0 := (HI2.out.2 0 (by decide)).1; have HI2_c1 := (HI2.out.2 1 (by decide)).1; have HI2_c2 := (HI2.out.2 2 (by decide)).1; have HI2_c3 := (HI2.out.2 3 (by decide)).1; have HI2_c4 := (HI2.out.2 4 (by decide)).1; have HI2_c5 := (HI2.out.2 5 (by decide)).1; have HI2_c6 := (HI2.out.2 6 (by decide)).1; have HI2_c7 := (HI2.out.2 7 (by decide)).1; have HI2_c8 := (HI2.out.2 8 (by decide)).1; have HI2_c9 := (HI2.out.2 9 (by decide)).1; have HI2_c10 := (HI2.out.2 10 (by decide)).1; have HI2_c11 := (HI2.out.2 11 (by decide)).1; have HI2_z := HI2.out.1
        go_wp2_with fail
        refine (refVVotes_any K f _ _).mono ?_
        rintro e w3 ⟨rfl, hb⟩
        have := HB2.out
        go_wp2
        go_ret2
        exact ⟨rfl, bel⟩
  · have h := Bool.eq_false_iff.2 h
    rw [(best_no h).1, (best_no h).2]
    go_enter Try.func17, Try.ntmps17
    go_wp2_with fail
    have HI := Lib.hid (Ints.box w f 24)
    refine wp_loop_rounds 1 ?_
    rw [rounds_succ]
    go_wp2_with fail
    refine (refVRight_any n f _).mono ?_
    rintro e w1 ⟨rfl, hb⟩
    rw [h]
    have hz := hb.size
    (try simp only [World.size_alloc, World.heap_drewN, World.size_drew, World.size_setCell] at hz)
    have HB1 := Lib.hid (show Below w.heap.size w w1 from bel)
    have HI1 := Lib.hid (HI.out.below hb)
    clear hb HI
    have HI1_c0 := (HI1.out.2 0 (by decide)).1; have HI1_c1 := (HI1.out.2 1 (by decide)).1; have HI1_c2 := (HI1.out.2 2 (by decide)).1; have HI1_c3 := (HI1.out.2 3 (by decide)).1; have HI1_c4 := (HI1.out.2 4 (by decide)).1; have HI1_c5 := (HI1.out.2 5 (by decide)).1; have HI1_c6 := (HI1.out.2 6 (by decide)).1; have HI1_c7 := (HI1.out.2 7 (by decide)).1; have HI1_c8 := (HI1.out.2 8 (by decide)).1; have HI1_c9 := (HI1.out.2 9 (by decide)).1; have HI1_c10 := (HI1.out.2 10 (by decide)).1; have HI1_c11 := (HI1.out.2 11 (by decide)).1; have HI1_z := HI1.out.1
    go_wp2_with fail
    refine (refVRight_any n f _).mono ?_
    rintro e w2 ⟨rfl, hb⟩
    rw [h]
    have := HB1.out
    go_wp2
    go_ret2
    exact ⟨rfl, bel⟩
end Go.Proofs.Ytijgabippedhpaa
