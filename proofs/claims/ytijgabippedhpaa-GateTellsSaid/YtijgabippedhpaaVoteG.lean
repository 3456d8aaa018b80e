
import Derived.Test.YtijgabippedhpaaRows
import Derived.Test.YtijgabippedhpaaVoteF
namespace Go.Proofs.Ytijgabippedhpaa
set_option linter.unusedVariables false
set_option linter.unusedSimpArgs false
open Go.ChangeShapes Go.WideShapes Go.RowKit

theorem votes_yes {m : Nat} {f : Nat → Int} (h : Vote.ok m f = true) (v : Int) : Vote.votes m f v = Vote.cnt m f v m := by unfold Vote.votes; rw [if_pos h]; rfl
theorem votes_no {n : Int} {f : Nat → Int} (h : Vote.ok n f = false) (v : Int) : Vote.votes n f v = 0 := by unfold Vote.votes; rw [h]; rfl
theorem cnt_next (n : Int) (f : Nat → Int) (v : Int) (K : Nat) : Vote.cnt n f v (K + 1) = Vote.cnt n f v K + (if Vote.vt n f v K = true then 1 else 0) := rfl
set_option maxHeartbeats 2000000 in
theorem refVVotes_any (n : Int) (f : Nat → Int) (v : Int) (w : World) :
    Calls Try.prog 18 #[.int .i64 n, .agg #[.int .i64 (f 0), .int .i64 (f 1), .int .i64 (f 2), .int .i64 (f 3), .int .i64 (f 4), .int .i64 (f 5), .int .i64 (f 6), .int .i64 (f 7), .int .i64 (f 8), .int .i64 (f 9), .int .i64 (f 10), .int .i64 (f 11)], .int .i64 v] w fun e w' => e = .returned (.int .i64 (Vote.votes n f v : Nat)) ∧ Below w.heap.size w w' := by
  by_cases h : Vote.ok n f = true
  · have hok := Vote.ok_iff.1 h
    have h38 := hok.1
    obtain ⟨m, rfl⟩ := Int.eq_ofNat_of_zero_le (show 0 ≤ n by omega)
    have HV := Lib.hid (votes_yes h v)
    generalize Vote.votes (m : Int) f v = r at *
    have HR := Lib.hid h
    have HOK := Lib.hid hok
    clear h hok
    go_enter Try.func18, Try.ntmps18
    go_wp2_with fail
    have HI := Lib.hid (Ints.box w f 24)
    go_loopw [7, 8] (fun q k wr => ∃ K : Nat, K ≤ m ∧ k = .int .i64 K ∧ q = .int .i64 (Vote.cnt m f v K : Nat) ∧ Ints wr w.heap.size 12 f ∧ Below w.heap.size w wr) (fun _ k _ => m - (intOf k).toNat)
    case atStart => exact ⟨0, by omega, rfl, rfl, HI.out, bel⟩
    case round =>
      clear HI
      obtain ⟨K, hK, rfl, rfl, hI, hb⟩ := hrel
      have HB := Lib.hid hb
      have HI := Lib.hid hI
      clear hb hI
      have HI_c0 := (HI.out.2 0 (by decide)).1; have HI_c1 := (HI.out.2 1 (by decide)).1; have HI_c2 := (HI.out.2 2 (by decide)).1; have HI_c3 := (HI.out.2 3 (by decide)).1; have HI_c4 := (HI.out.2 4 (by decide)).1; have HI_c5 := (HI.out.2 5 (by decide)).1; have HI_c6 := (HI.out.2 6 (by decide)).1; have HI_c7 := (HI.out.2 7 (by decide)).1; have HI_c8 := (HI.out.2 8 (by decide)).1; have HI_c9 := (HI.out.2 9 (by decide)).1; have HI_c10 := (HI.out.2 10 (by decide)).1; have HI_c11 := (HI.out.2 11 (by decide)).1; have HI_z := HI.out.1
      go_wp2_with fail
      refine (refVRight_any m f _).mono ?_
      rintro e w1 ⟨rfl, hb⟩
      rw [HR.out]
      have hz := hb.size
      (try simp only [World.size_alloc, World.heap_drewN, World.size_drew, World.size_setCell] at hz)
      have HB1 := Lib.hid (show Below w.heap.size w w1 from by have := HB.out; exact bel)
      have HI1 := Lib.hid (HI.out.below hb)
      clear hb HI HB HI_c0 HI_c1 HI_c2 HI_c3 HI_c4 HI_c5 HI_c6 HI_c7 HI_c8 HI_c9 HI_c10 HI_c11 HI_z
      have HI1_c0 := (HI1.out.2 0 (by decide)).1; have HI1_c1 := (HI1.out.2 1 (by decide)).1; have HI1_c2 := (HI1.out.2 2 (by decide)).1; have HI1_c3 := (HI1.out.2 3 (by decide)).1; have HI1_c4 := (HI1.out.2 4 (by decide)).1; have HI1_c5 := (HI1.out.2 5 (by decide)).1; have HI1_c6 := (HI1.out.2 6 (by decide)).1; have HI1_c7 := (HI1.out.2 7 (by decide)).1; have HI1_c8 := (HI1.out.2 8 (by decide)).1; have HI1_c9 := (HI1.out.2 9 (by decide)).1; have HI1_c10 := (HI1.out.2 10 (by decide)).1; have HI1_c11 := (HI1.out.2 11 (by decide)).1; have HI1_z := HI1.out.1
      by_cases hlt : K < m
      · have h1 : (K : Int) < m := by omega
        have h0 : (0 : Int) ≤ K := by omega
        have HN := Lib.hid (cnt_next m f v K)
        have hc := Vote.cnt_le m f v K
        have CV := Lib.hid (fun w => refVt_any m f K v w HOK.out hlt)
        generalize Vote.vt m f v K = b at *
        go_wp2_with fail
        refine (CV.out _).mono ?_
        rintro e w2 ⟨rfl, hb⟩
        have HB2 := Lib.hid (show Below w.heap.size w w2 from by have := HB1.out; exact bel)
        have HI2 := Lib.hid (HI1.out.below hb)
        clear hb
        cases b
        · go_wp2
          go_roundw
          case rel => exact ⟨K + 1, by omega, by go_num, by rw [HN.out]; rfl, HI2.out, HB2.out⟩
          case measure => simp [intOf]; omega
        · go_wp2
          go_roundw
          case rel => exact ⟨K + 1, by omega, by go_num, by rw [HN.out]; simp, HI2.out, HB2.out⟩
          case measure => simp [intOf]; omega
      · obtain rfl : K = m := by omega
        have := HB1.out
        go_wp2
        go_ret
        exact ⟨by rw [HV.out]; rfl, bel⟩
  · have h := Bool.eq_false_iff.2 h
    rw [votes_no h]
    go_enter Try.func18, Try.ntmps18
    go_wp2_with fail
    refine wp_loop_rounds 1 ?_
    rw [rounds_succ]
    go_wp2_with fail
    refine (refVRight_any n f _).mono ?_
    rintro e w1 ⟨rfl, hb⟩
    rw [h]
    go_wp2
    go_ret
    exact ⟨rfl, bel⟩
end Go.Proofs.Ytijgabippedhpaa
