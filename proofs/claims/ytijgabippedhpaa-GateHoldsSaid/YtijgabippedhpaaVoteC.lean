
import Derived.Test.YtijgabippedhpaaRows
import Derived.Test.YtijgabippedhpaaVoteB
namespace Go.Proofs.Ytijgabippedhpaa
set_option linter.unusedVariables false
set_option linter.unusedSimpArgs false
open Go.ChangeShapes Go.WideShapes Go.RowKit

/-- A fresh one, when the first 'K' ages are written. -/
def freshK (n : Int) (K j : Nat) : Int := if j < K then n else if j = 9 then 2 * n + 1 else 0
theorem freshK_end (n j : Nat) (h : 3 ≤ n ∧ n ≤ 8) (hj : j < 12) : freshK n n j = Vote.fresh n j := by
  unfold freshK Vote.fresh
  rw [if_pos (Conf.right_spec.2 (by omega))]
  by_cases h1 : j < n
  · rw [if_pos h1, if_pos (by omega), Vote.most_yes (by omega)]
  · rw [if_neg h1]
    by_cases h8 : j < 8
    · rw [if_neg (by omega), if_pos h8, Vote.most_no (by omega)]
    · rw [if_neg h8]
theorem fresh_no {n : Int} (h : Conf.right n = false) (j : Nat) : Vote.fresh n j = 0 := by unfold Vote.fresh; rw [h]; rfl
set_option maxHeartbeats 2000000 in
theorem refVFresh_any (n : Int) (w : World) :
    Calls Try.prog 19 #[.int .i64 n] w fun e w' => e = .returned (.tuple #[.agg #[.int .i64 (Vote.fresh n 0), .int .i64 (Vote.fresh n 1), .int .i64 (Vote.fresh n 2), .int .i64 (Vote.fresh n 3), .int .i64 (Vote.fresh n 4), .int .i64 (Vote.fresh n 5), .int .i64 (Vote.fresh n 6), .int .i64 (Vote.fresh n 7), .int .i64 (Vote.fresh n 8), .int .i64 (Vote.fresh n 9), .int .i64 (Vote.fresh n 10), .int .i64 (Vote.fresh n 11)], .int .i64 (Vote.err n)]) ∧ Below w.heap.size w w' := by
  by_cases h : Conf.right n = true
  · have h38 := Conf.right_spec.1 h
    rw [Vote.err_yes h]
    have ht : Conf.tm n 2 = 2 * n := Conf.tm_yes h
    have CB := Lib.hid (fun w => refBlock_val n _ ht w)
    have HR := Lib.hid h
    clear h ht
    obtain ⟨m, rfl⟩ := Int.eq_ofNat_of_zero_le (show 0 ≤ n by omega)
    have s2 : IntKind.i64.wrap (2 * (m : Int) + 1) = 2 * m + 1 := IntWalk.i64_in _ (by omega)
    have HG := Lib.hid (fun j hj => freshK_end m j (by omega) hj)
    generalize Vote.fresh (m : Int) = g at *
    go_enter Try.func19, Try.ntmps19
    go_wp2_with fail
    refine (refCright_any _ _).mono ?_; rintro e w' ⟨rfl, rfl⟩
    rw [HR.out]
    go_wp2_with fail
    refine (CB.out _).mono ?_; rintro e w' ⟨rfl, rfl⟩
    go_wp2_with fail
    have HI := Lib.hid ((Ints.box (w.alloc (.cells #[.int .i64 ((fun _ => (0 : Int)) 0), .int .i64 ((fun _ => (0 : Int)) 1), .int .i64 ((fun _ => (0 : Int)) 2), .int .i64 ((fun _ => (0 : Int)) 3), .int .i64 ((fun _ => (0 : Int)) 4), .int .i64 ((fun _ => (0 : Int)) 5), .int .i64 ((fun _ => (0 : Int)) 6), .int .i64 ((fun _ => (0 : Int)) 7), .int .i64 ((fun _ => (0 : Int)) 8), .int .i64 ((fun _ => (0 : Int)) 9), .int .i64 ((fun _ => (0 : Int)) 10), .int .i64 ((fun _ => (0 : Int)) 11)] 24)) (freshK m 0) 24))
    have HZ := Lib.hid ((Ints.zeros w 24).alloc (.cells #[.int .i64 (freshK m 0 0), .int .i64 (freshK m 0 1), .int .i64 (freshK m 0 2), .int .i64 (freshK m 0 3), .int .i64 (freshK m 0 4), .int .i64 (freshK m 0 5), .int .i64 (freshK m 0 6), .int .i64 (freshK m 0 7), .int .i64 (freshK m 0 8), .int .i64 (freshK m 0 9), .int .i64 (freshK m 0 10), .int .i64 (freshK m 0 11)] 24))
    go_loopw [5] (fun k wr => ∃ K : Nat, K ≤ m ∧ k = .int .i64 K ∧ Ints wr (w.heap.size + 1) 12 (freshK m K) ∧ Ints wr w.heap.size 12 (fun _ => 0) ∧ Below w.heap.size w wr) (fun k _ => m - (intOf k).toNat)
    case atStart =>
      refine ⟨0, by omega, rfl, ?_, ?_, bel⟩
      · simpa [freshK] using HI.out
      · simpa [freshK] using HZ.out
    case round =>
      clear HI HZ
      obtain ⟨K, hK, rfl, hI, hZ, hb⟩ := hrel
      have HB := Lib.hid hb
      have HI := Lib.hid hI
      have HZ := Lib.hid hZ
      by_cases hlt : K < m
      · have h1 : (K : Int) < m := by omega
        have h0 : (0 : Int) ≤ K := by omega
        have h8 : (K : Int) < 8 := by omega
        obtain ⟨c0, f0⟩ := hI.2 K (by omega)
        clear hb hI hZ
        go_wp2_with fail
        go_roundw
        case rel =>
          have := HB.out
          refine ⟨K + 1, by omega, by go_num, HI.out.set K m (by omega) _ (fun j => ?_), HZ.out.other _ _ _ (by omega), bel⟩
          unfold freshK
          by_cases e : j = K
          · rw [if_pos e, if_pos (by omega)]
          · rw [if_neg e]
            by_cases e2 : j < K
            · rw [if_pos e2, if_pos (by omega)]
            · rw [if_neg e2, if_neg (by omega)]
        case measure => simp [intOf]; omega
      · obtain rfl : K = m := by omega
        have HI := Lib.hid (hI.like HG.out)
        clear hb hI hZ
        have HZ_r := HZ.out.row12; have HZ_c0 := (HZ.out.2 0 (by decide)).1; have HZ_f0 := (HZ.out.2 0 (by decide)).2; have HZ_c1 := (HZ.out.2 1 (by decide)).1; have HZ_f1 := (HZ.out.2 1 (by decide)).2; have HZ_c2 := (HZ.out.2 2 (by decide)).1; have HZ_f2 := (HZ.out.2 2 (by decide)).2; have HZ_c3 := (HZ.out.2 3 (by decide)).1; have HZ_f3 := (HZ.out.2 3 (by decide)).2; have HZ_c4 := (HZ.out.2 4 (by decide)).1; have HZ_f4 := (HZ.out.2 4 (by decide)).2; have HZ_c5 := (HZ.out.2 5 (by decide)).1; have HZ_f5 := (HZ.out.2 5 (by decide)).2; have HZ_c6 := (HZ.out.2 6 (by decide)).1; have HZ_f6 := (HZ.out.2 6 (by decide)).2; have HZ_c7 := (HZ.out.2 7 (by decide)).1; have HZ_f7 := (HZ.out.2 7 (by decide)).2; have HZ_c8 := (HZ.out.2 8 (by decide)).1; have HZ_f8 := (HZ.out.2 8 (by decide)).2; have HZ_c9 := (HZ.out.2 9 (by decide)).1; have HZ_f9 := (HZ.out.2 9 (by decide)).2; have HZ_c10 := (HZ.out.2 10 (by decide)).1; have HZ_f10 := (HZ.out.2 10 (by decide)).2; have HZ_c11 := (HZ.out.2 11 (by decide)).1; have HZ_f11 := (HZ.out.2 11 (by decide)).2; have HZ_z := HZ.out.1
        have HI_c0 := (HI.out.2 0 (by decide)).1; have HI_c1 := (HI.out.2 1 (by decide)).1; have HI_c2 := (HI.out.2 2 (by decide)).1; have HI_c3 := (HI.out.2 3 (by decide)).1; have HI_c4 := (HI.out.2 4 (by decide)).1; have HI_c5 := (HI.out.2 5 (by decide)).1; have HI_c6 := (HI.out.2 6 (by decide)).1; have HI_c7 := (HI.out.2 7 (by decide)).1; have HI_c8 := (HI.out.2 8 (by decide)).1; have HI_c9 := (HI.out.2 9 (by decide)).1; have HI_c10 := (HI.out.2 10 (by decide)).1; have HI_c11 := (HI.out.2 11 (by decide)).1; have HI_z := HI.out.1
        have := HB.out
        go_wp2
        refine bodyPost_ret (ret_cell_tmp Try.results19 (w.heap.size) [.int .i64 ((g) 0), .int .i64 ((g) 1), .int .i64 ((g) 2), .int .i64 ((g) 3), .int .i64 ((g) 4), .int .i64 ((g) 5), .int .i64 ((g) 6), .int .i64 ((g) 7), .int .i64 ((g) 8), .int .i64 ((g) 9), .int .i64 ((g) 10), .int .i64 ((g) 11)] _ rfl rng Try.underlying24 rfl (by kernel_rfl)) rfl ⟨rfl, ?_⟩; exact bel
  · have h := Bool.eq_false_iff.2 h
    rw [Vote.err_no h]
    simp only [fresh_no h]
    go_enter Try.func19, Try.ntmps19
    go_wp2_with fail
    refine (refCright_any _ _).mono ?_; rintro e w' ⟨rfl, rfl⟩
    rw [h]
    go_wp2
    refine bodyPost_ret (ret_cell_tmp Try.results19 (w.heap.size) [.int .i64 ((fun _ => 0) 0), .int .i64 ((fun _ => 0) 1), .int .i64 ((fun _ => 0) 2), .int .i64 ((fun _ => 0) 3), .int .i64 ((fun _ => 0) 4), .int .i64 ((fun _ => 0) 5), .int .i64 ((fun _ => 0) 6), .int .i64 ((fun _ => 0) 7), .int .i64 ((fun _ => 0) 8), .int .i64 ((fun _ => 0) 9), .int .i64 ((fun _ => 0) 10), .int .i64 ((fun _ => 0) 11)] _ rfl rng Try.underlying24 rfl (by kernel_rfl)) rfl ⟨rfl, ?_⟩; exact bel
end Go.Proofs.Ytijgabippedhpaa
