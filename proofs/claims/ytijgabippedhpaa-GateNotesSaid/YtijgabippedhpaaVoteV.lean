
import Derived.Test.YtijgabippedhpaaRows
import Derived.Test.YtijgabippedhpaaVoteU
namespace Go.Proofs.Ytijgabippedhpaa
set_option linter.unusedVariables false
set_option linter.unusedSimpArgs false
open Go.ChangeShapes Go.WideShapes Go.RowKit

theorem at_val (n p a x : Int) (h : (p + a) % n = x) (h1 : 1 ≤ n) (h2 : n ≤ 1000000) (p0 : 0 ≤ p) (p1 : p < n) (a0 : 0 ≤ a) (a1 : a ≤ 1099511627776) (w : World) :
    Calls Try.prog 48 #[.int .i64 n, .int .i64 p, .int .i64 a] w fun e w' => e = .returned (.int .i64 x) ∧ w = w' := by
  rw [← h]
  exact at_any n p a h1 h2 p0 p1 a0 a1 w
set_option maxHeartbeats 2000000 in
theorem byInfo_any (m : Nat) (f : Nat → Int) (p : Nat) (v : Int) (w : World) (h : Vote.Ok m f) (hp : p < m) :
    Calls Try.prog 44 #[.int .i64 m, .agg #[.int .i64 (f 0), .int .i64 (f 1), .int .i64 (f 2), .int .i64 (f 3), .int .i64 (f 4), .int .i64 (f 5), .int .i64 (f 6), .int .i64 (f 7), .int .i64 (f 8), .int .i64 (f 9), .int .i64 (f 10), .int .i64 (f 11)], .int .i64 p, .int .i64 v] w fun e w' => e = .returned (.bool (Vote.said m f v p)) ∧ Below w.heap.size w w' := by
  obtain ⟨h38, hA, -, k9, -, -⟩ := h
  have hap := hA p (by omega)
  rw [Vote.most_yes (by omega)] at hap
  have HV : Hid (Vote.said m f v p = (decide (f p < m) && (((p : Int) + f p) % m == v))) := rfl
  generalize hx : ((p : Int) + f p) % (m : Int) = x at *
  have CX := Lib.hid (fun w => at_val m p (f p) x hx (by omega) (by omega) (by omega) (by omega) (by omega) (by omega) w)
  have h1 : (p : Int) < m := by omega
  have h8 : (p : Int) < 8 := by omega
  have h0 : (0 : Int) ≤ p := by omega
  generalize Vote.said m f v p = r at *
  clear hA hx k9
  go_enter Try.func44, Try.ntmps44
  go_upto_region 1 with fail
  have HI := Lib.hid (Ints.box w f 24)
  have HB := Lib.hid (show Below w.heap.size w (w.alloc (.cells #[.int .i64 (f 0), .int .i64 (f 1), .int .i64 (f 2), .int .i64 (f 3), .int .i64 (f 4), .int .i64 (f 5), .int .i64 (f 6), .int .i64 (f 7), .int .i64 (f 8), .int .i64 (f 9), .int .i64 (f 10), .int .i64 (f 11)] 24)) from bel)
  generalize w.alloc _ = w1 at *
  have cp := (HI.out.2 p (by omega)).1
  have hz := HI.out.1
  by_cases q1 : f p < (m : Int)
  · cases q2 : (x == v)
    all_goals
      go_wp2_with fail
      refine (CX.out _).mono ?_; rintro e w' ⟨rfl, rfl⟩
      have := HB.out
      go_wp2
      go_ret
      exact ⟨by rw [HV.out]; simp [q1, q2], bel⟩
  · have := HB.out
    go_wp2
    go_ret
    exact ⟨by rw [HV.out, decide_eq_false (Int.not_lt.2 q1)]; rfl, bel⟩
set_option maxHeartbeats 2000000 in
theorem byCs_any (m : Nat) (f : Nat → Int) (p : Nat) (v : Int) (w : World) (h : Vote.Ok m f) (hp : p < m) :
    Calls Try.prog 45 #[.int .i64 m, .agg #[.int .i64 (f 0), .int .i64 (f 1), .int .i64 (f 2), .int .i64 (f 3), .int .i64 (f 4), .int .i64 (f 5), .int .i64 (f 6), .int .i64 (f 7), .int .i64 (f 8), .int .i64 (f 9), .int .i64 (f 10), .int .i64 (f 11)], .int .i64 p, .int .i64 v] w fun e w' => e = .returned (.bool (Vote.held m f v p)) ∧ Below w.heap.size w w' := by
  obtain ⟨h38, hA, -, k9, -, -⟩ := h
  have CB := Lib.hid (fun w => block_val m _ (Conf.tm_yes (Conf.right_spec.2 h38)) w)
  have HV : Hid (Vote.held m f v p = (((p : Int) == f 8) && decide (f 9 < 2 * m) && (((p : Int) + f 9) % m == v))) := rfl
  generalize hy : ((p : Int) + f 9) % (m : Int) = y at *
  have CY := Lib.hid (fun w => at_val m p (f 9) y hy (by omega) (by omega) (by omega) (by omega) (by omega) (by omega) w)
  generalize Vote.held m f v p = r at *
  clear hA hy k9
  go_enter Try.func45, Try.ntmps45
  go_upto_region 1 with fail
  have HI := Lib.hid (Ints.box w f 24)
  have HB := Lib.hid (show Below w.heap.size w (w.alloc (.cells #[.int .i64 (f 0), .int .i64 (f 1), .int .i64 (f 2), .int .i64 (f 3), .int .i64 (f 4), .int .i64 (f 5), .int .i64 (f 6), .int .i64 (f 7), .int .i64 (f 8), .int .i64 (f 9), .int .i64 (f 10), .int .i64 (f 11)] 24)) from bel)
  generalize w.alloc _ = w1 at *
  have c8 := (HI.out.2 8 (by decide)).1
  have c9 := (HI.out.2 9 (by decide)).1
  have hz := HI.out.1
  cases q3 : ((p : Int) == f 8)
  all_goals
    cases q4 : (decide (f 9 < 2 * (m : Int)))
    all_goals
      cases q5 : (y == v)
      all_goals
        refine region_below (by kernel_rfl) (by kernel_rfl) ?_; intro wR HW
        have HBR := Lib.hid (show Below w.heap.size w wR from by have := HB.out; rw [← HW.out]; exact bel)
        rw [HW.out] at c8 c9
        replace c8 := cell_regrown c8
        replace c9 := cell_regrown c9
        (repeat (first | go_big_quiet_step (first | with_reducible exact Calls.regrown_of (CB.out _) | with_reducible exact Calls.regrown_of (Calls.same_below (Calls.back (CY.out _)))) | quiet_step (first | with_reducible exact Calls.regrown_of (CB.out _) | with_reducible exact Calls.regrown_of (Calls.same_below (Calls.back (CY.out _)))))); refine wpQuiet_nil ?_; intro w2 hb2
        have HB2 := Lib.hid (show Below w.heap.size w w2 from by have := HBR.out; exact bthru hb2 this)
        clear hb2
        have := HB2.out
        go_wp2
        go_ret
        exact ⟨by rw [HV.out]; simp [q3, q4, q5], bel⟩
set_option maxHeartbeats 2000000 in
theorem count_any (m : Nat) (f : Nat → Int) (v : Int) (w : World) (h : Vote.Ok m f) :
    Calls Try.prog 36 #[.int .i64 m, .agg #[.int .i64 (f 0), .int .i64 (f 1), .int .i64 (f 2), .int .i64 (f 3), .int .i64 (f 4), .int .i64 (f 5), .int .i64 (f 6), .int .i64 (f 7), .int .i64 (f 8), .int .i64 (f 9), .int .i64 (f 10), .int .i64 (f 11)], .int .i64 v] w fun e w' => e = .returned (.int .i64 (Vote.cnt m f v m : Nat)) ∧ Below w.heap.size w w' := by
  have h38 := h.1
  have HOK := Lib.hid h
  clear h
  go_enter Try.func36, Try.ntmps36
  go_wp2_with fail
  have HI := Lib.hid (Ints.box w f 24)
  go_loopw [7, 10] (fun q k wr => ∃ K : Nat, K ≤ m ∧ k = .int .i64 K ∧ q = .int .i64 (Vote.cnt m f v K : Nat) ∧ Ints wr w.heap.size 12 f ∧ Below w.heap.size w wr) (fun _ k _ => m - (intOf k).toNat)
  case atStart => exact ⟨0, by omega, rfl, rfl, HI.out, bel⟩
  case round =>
    clear HI
    obtain ⟨K, hK, rfl, rfl, hI, hb⟩ := hrel
    have HB := Lib.hid hb
    have HI := Lib.hid hI
    clear hb hI
    by_cases hlt : K < m
    · have h1 : (K : Int) < m := by omega
      have h0 : (0 : Int) ≤ K := by omega
      have HN := Lib.hid (cnt_next m f v K)
      have HV := Lib.hid (show Vote.vt m f v K = (Vote.said m f v K || Vote.held m f v K) from rfl)
      have hc := Vote.cnt_le m f v K
      have CI := Lib.hid (fun w => byInfo_any m f K v w HOK.out hlt)
      have CC := Lib.hid (fun w => byCs_any m f K v w HOK.out hlt)
      generalize Vote.said m f v K = b1 at *
      generalize Vote.held m f v K = b2 at *
      generalize Vote.vt m f v K = b at *
      have HI_c0 := (HI.out.2 0 (by decide)).1; have HI_c1 := (HI.out.2 1 (by decide)).1; have HI_c2 := (HI.out.2 2 (by decide)).1; have HI_c3 := (HI.out.2 3 (by decide)).1; have HI_c4 := (HI.out.2 4 (by decide)).1; have HI_c5 := (HI.out.2 5 (by decide)).1; have HI_c6 := (HI.out.2 6 (by decide)).1; have HI_c7 := (HI.out.2 7 (by decide)).1; have HI_c8 := (HI.out.2 8 (by decide)).1; have HI_c9 := (HI.out.2 9 (by decide)).1; have HI_c10 := (HI.out.2 10 (by decide)).1; have HI_c11 := (HI.out.2 11 (by decide)).1; have HI_z := HI.out.1
      go_wp2_with fail
      refine (CI.out _).mono ?_; rintro e w1 ⟨rfl, hb⟩; have hz := hb.size; (try simp only [World.size_alloc, World.heap_drewN, World.size_drew, World.size_setCell] at hz)
      have HB1 := Lib.hid (show Below w.heap.size w w1 from by have := HB.out; exact bel)
      have HI1 := Lib.hid (HI.out.below hb)
      clear hb
      clear HI_c0 HI_c1 HI_c2 HI_c3 HI_c4 HI_c5 HI_c6 HI_c7 HI_c8 HI_c9 HI_c10 HI_c11 HI_z
      clear HI HB
      cases b1
      · have HI1_c0 := (HI1.out.2 0 (by decide)).1; have HI1_c1 := (HI1.out.2 1 (by decide)).1; have HI1_c2 := (HI1.out.2 2 (by decide)).1; have HI1_c3 := (HI1.out.2 3 (by decide)).1; have HI1_c4 := (HI1.out.2 4 (by decide)).1; have HI1_c5 := (HI1.out.2 5 (by decide)).1; have HI1_c6 := (HI1.out.2 6 (by decide)).1; have HI1_c7 := (HI1.out.2 7 (by decide)).1; have HI1_c8 := (HI1.out.2 8 (by decide)).1; have HI1_c9 := (HI1.out.2 9 (by decide)).1; have HI1_c10 := (HI1.out.2 10 (by decide)).1; have HI1_c11 := (HI1.out.2 11 (by decide)).1; have HI1_z := HI1.out.1
        go_wp2_with fail
        refine (CC.out _).mono ?_; rintro e w2 ⟨rfl, hb⟩; have hz := hb.size; (try simp only [World.size_alloc, World.heap_drewN, World.size_drew, World.size_setCell] at hz)
        have HB2 := Lib.hid (show Below w.heap.size w w2 from by have := HB1.out; exact bel)
        have HI2 := Lib.hid (HI1.out.below hb)
        clear hb
        clear HI1_c0 HI1_c1 HI1_c2 HI1_c3 HI1_c4 HI1_c5 HI1_c6 HI1_c7 HI1_c8 HI1_c9 HI1_c10 HI1_c11 HI1_z
        clear HI1 HB1
        cases b2
        · go_wp2
          go_roundw
          case rel => exact ⟨K + 1, by omega, by go_num, by rw [HN.out, HV.out]; rfl, HI2.out, HB2.out⟩
          case measure => simp [intOf]; omega
        · go_wp2
          go_roundw
          case rel => exact ⟨K + 1, by omega, by go_num, by rw [HN.out, HV.out]; simp, HI2.out, HB2.out⟩
          case measure => simp [intOf]; omega
      · go_wp2
        go_roundw
        case rel => exact ⟨K + 1, by omega, by go_num, by rw [HN.out, HV.out]; simp, HI1.out, HB1.out⟩
        case measure => simp [intOf]; omega
    · obtain rfl : K = m := by omega
      have := HB.out
      go_wp2
      go_ret
      exact ⟨rfl, bel⟩
set_option maxHeartbeats 2000000 in
theorem vVotes_any (n : Int) (f : Nat → Int) (v : Int) (w : World) (hf : Bd12 f) :
    Calls Try.prog 24 #[.int .i64 n, .agg #[.int .i64 (f 0), .int .i64 (f 1), .int .i64 (f 2), .int .i64 (f 3), .int .i64 (f 4), .int .i64 (f 5), .int .i64 (f 6), .int .i64 (f 7), .int .i64 (f 8), .int .i64 (f 9), .int .i64 (f 10), .int .i64 (f 11)], .int .i64 v] w fun e w' => e = .returned (.int .i64 (Vote.votes n f v : Nat)) ∧ Below w.heap.size w w' := by
  have CR := Lib.hid (fun w => vRight_any n f w hf)
  by_cases h : Vote.ok n f = true
  · have hok := Vote.ok_iff.1 h
    have h38 := hok.1
    obtain ⟨m, rfl⟩ := Int.eq_ofNat_of_zero_le (show 0 ≤ n by omega)
    rw [votes_yes h v]
    rw [h] at CR
    have CC := Lib.hid (fun w => count_any m f v w hok)
    generalize Vote.cnt m f v m = r at *
    clear h hok hf
    go_enter Try.func24, Try.ntmps24
    go_upto_region 1 with fail
    have HI := Lib.hid (Ints.box w f 24)
    go_wp2_with fail
    refine (CR.out _).mono ?_; rintro e w1 ⟨rfl, hb⟩; have hz := hb.size; (try simp only [World.size_alloc, World.heap_drewN, World.size_drew, World.size_setCell] at hz)
    have HB1 := Lib.hid (show Below w.heap.size w w1 from bel)
    have HI1 := Lib.hid (HI.out.below hb)
    clear hb HI
    have HI1_c0 := (HI1.out.2 0 (by decide)).1; have HI1_c1 := (HI1.out.2 1 (by decide)).1; have HI1_c2 := (HI1.out.2 2 (by decide)).1; have HI1_c3 := (HI1.out.2 3 (by decide)).1; have HI1_c4 := (HI1.out.2 4 (by decide)).1; have HI1_c5 := (HI1.out.2 5 (by decide)).1; have HI1_c6 := (HI1.out.2 6 (by decide)).1; have HI1_c7 := (HI1.out.2 7 (by decide)).1; have HI1_c8 := (HI1.out.2 8 (by decide)).1; have HI1_c9 := (HI1.out.2 9 (by decide)).1; have HI1_c10 := (HI1.out.2 10 (by decide)).1; have HI1_c11 := (HI1.out.2 11 (by decide)).1; have HI1_z := HI1.out.1
    go_wp2_with fail
    refine (CC.out _).mono ?_; rintro e w2 ⟨rfl, hb⟩; have hz := hb.size; (try simp only [World.size_alloc, World.heap_drewN, World.size_drew, World.size_setCell] at hz)
    have := HB1.out
    go_wp2
    go_ret
    exact ⟨rfl, bel⟩
  · have h := Bool.eq_false_iff.2 h
    rw [votes_no h]
    rw [h] at CR
    go_enter Try.func24, Try.ntmps24
    go_wp2_with fail
    refine (CR.out _).mono ?_; rintro e w1 ⟨rfl, hb⟩; have hz := hb.size; (try simp only [World.size_alloc, World.heap_drewN, World.size_drew, World.size_setCell] at hz)
    go_wp2
    go_ret
    exact ⟨rfl, bel⟩
/-- How many votes the best of the first 'K' slots has; none has none. -/
def bv (n : Int) (f : Nat → Int) (K : Nat) : Nat := if K = 0 then 0 else Vote.votes n f (Vote.bestK n f K : Nat)
theorem bv_more {n : Int} {f : Nat → Int} {K : Nat} (h : bv n f K < Vote.votes n f (K : Nat)) : Vote.bestK n f (K + 1) = K ∧ bv n f (K + 1) = Vote.votes n f (K : Nat) := by
  have e : Vote.bestK n f (K + 1) = K := by
    rw [bestK_next]
    by_cases e : K = 0
    · subst e; split <;> rfl
    · unfold bv at h; rw [if_neg e] at h; rw [if_pos h]
  refine ⟨e, ?_⟩
  unfold bv
  rw [if_neg (by omega), e]
theorem bv_less {n : Int} {f : Nat → Int} {K : Nat} (h : ¬ bv n f K < Vote.votes n f (K : Nat)) : Vote.bestK n f (K + 1) = Vote.bestK n f K ∧ bv n f (K + 1) = bv n f K := by
  by_cases e : K = 0
  · subst e
    have e1 : Vote.bestK n f (0 + 1) = Vote.bestK n f 0 := by rw [bestK_next]; split <;> rfl
    refine ⟨e1, ?_⟩
    unfold bv at h ⊢
    rw [if_pos rfl] at h ⊢
    rw [if_neg (by omega), e1]
    show Vote.votes n f (0 : Nat) = 0
    omega
  · have e1 : Vote.bestK n f (K + 1) = Vote.bestK n f K := by
      unfold bv at h; rw [if_neg e] at h
      rw [bestK_next, if_neg h]
    refine ⟨e1, ?_⟩
    unfold bv
    rw [if_neg (by omega), if_neg e, e1]
set_option maxHeartbeats 2000000 in
theorem vBest_any (n : Int) (f : Nat → Int) (w : World) (hf : Bd12 f) :
    Calls Try.prog 25 #[.int .i64 n, .agg #[.int .i64 (f 0), .int .i64 (f 1), .int .i64 (f 2), .int .i64 (f 3), .int .i64 (f 4), .int .i64 (f 5), .int .i64 (f 6), .int .i64 (f 7), .int .i64 (f 8), .int .i64 (f 9), .int .i64 (f 10), .int .i64 (f 11)]] w fun e w' => e = .returned (.tuple #[.int .i64 (Vote.best n f : Nat), .int .i64 (Vote.bestVotes n f : Nat)]) ∧ Below w.heap.size w w' := by
  have CR := Lib.hid (fun w => vRight_any n f w hf)
  by_cases h : Vote.ok n f = true
  · have hok := Vote.ok_iff.1 h
    have h38 := hok.1
    obtain ⟨m, rfl⟩ := Int.eq_ofNat_of_zero_le (show 0 ≤ n by omega)
    rw [(best_yes h).1, (best_yes h).2]
    rw [h] at CR
    have HO := Lib.hid hok
    have HV := Lib.hid (fun v => votes_yes h v)
    clear h hok hf
    go_enter Try.func25, Try.ntmps25
    go_upto_region 2 with fail
    have HI := Lib.hid (Ints.box w f 24)
    go_wp2_with fail
    refine (CR.out _).mono ?_; rintro e w1 ⟨rfl, hb⟩; have hz := hb.size; (try simp only [World.size_alloc, World.heap_drewN, World.size_drew, World.size_setCell] at hz)
    have HB1 := Lib.hid (show Below w.heap.size w w1 from bel)
    have HI1 := Lib.hid (HI.out.below hb)
    clear hb HI
    go_wp2_with fail
    go_loopw [6, 7, 17] (fun z y k wr => ∃ K : Nat, K ≤ m ∧ k = .int .i64 K ∧ z = .int .i64 (Vote.bestK m f K : Nat) ∧ y = .int .i64 (bv m f K : Nat) ∧ Ints wr w.heap.size 12 f ∧ Below w.heap.size w wr) (fun _ _ k _ => m - (intOf k).toNat)
    case atStart => exact ⟨0, by omega, rfl, rfl, rfl, HI1.out, HB1.out⟩
    case round =>
      clear HI1 HB1
      obtain ⟨K, hK, rfl, rfl, rfl, hI, hb⟩ := hrel
      have HB := Lib.hid hb
      have HI := Lib.hid hI
      clear hb hI
      have hbk := Vote.bestK_le m f K
      by_cases hlt : K < m
      · have h1 : (K : Int) < m := by omega
        have h0 : (0 : Int) ≤ K := by omega
        have HM := Lib.hid (bv_more (n := (m : Int)) (f := f) (K := K))
        have HL := Lib.hid (bv_less (n := (m : Int)) (f := f) (K := K))
        have CC := Lib.hid (fun w => count_any m f (K : Nat) w HO.out)
        rw [show Vote.cnt m f (K : Nat) m = Vote.votes m f (K : Nat) from (HV.out _).symm] at CC
        generalize Vote.votes m f (K : Nat) = x at *
        generalize bv m f K = y at *
        generalize Vote.bestK m f K = z at *
        have HI_c0 := (HI.out.2 0 (by decide)).1; have HI_c1 := (HI.out.2 1 (by decide)).1; have HI_c2 := (HI.out.2 2 (by decide)).1; have HI_c3 := (HI.out.2 3 (by decide)).1; have HI_c4 := (HI.out.2 4 (by decide)).1; have HI_c5 := (HI.out.2 5 (by decide)).1; have HI_c6 := (HI.out.2 6 (by decide)).1; have HI_c7 := (HI.out.2 7 (by decide)).1; have HI_c8 := (HI.out.2 8 (by decide)).1; have HI_c9 := (HI.out.2 9 (by decide)).1; have HI_c10 := (HI.out.2 10 (by decide)).1; have HI_c11 := (HI.out.2 11 (by decide)).1; have HI_z := HI.out.1
        go_wp2_with fail
        refine (CC.out _).mono ?_; rintro e w2 ⟨rfl, hb⟩; have hz := hb.size; (try simp only [World.size_alloc, World.heap_drewN, World.size_drew, World.size_setCell] at hz)
        have HB2 := Lib.hid (show Below w.heap.size w w2 from by have := HB.out; exact bel)
        have HI2 := Lib.hid (HI.out.below hb)
        clear hb
        clear HI_c0 HI_c1 HI_c2 HI_c3 HI_c4 HI_c5 HI_c6 HI_c7 HI_c8 HI_c9 HI_c10 HI_c11 HI_z
        clear HI HB
        by_cases hxy : (y : Int) < x
        · go_wp2
          go_roundw
          case rel => exact ⟨K + 1, by omega, by go_num, by rw [(HM.out (by omega)).1], by rw [(HM.out (by omega)).2], HI2.out, HB2.out⟩
          case measure => simp [intOf]; omega
        · go_wp2
          go_roundw
          case rel => exact ⟨K + 1, by omega, by go_num, by rw [(HL.out (by omega)).1], by rw [(HL.out (by omega)).2], HI2.out, HB2.out⟩
          case measure => simp [intOf]; omega
      · obtain rfl : K = m := by omega
        have e : bv K f K = Vote.votes K f (Vote.bestK K f K : Nat) := if_neg (by omega)
        rw [e]
        have := HB.out
        go_wp2
        go_ret2
        exact ⟨rfl, bel⟩
  · have h := Bool.eq_false_iff.2 h
    rw [(best_no h).1, (best_no h).2]
    rw [h] at CR
    go_enter Try.func25, Try.ntmps25
    go_wp2_with fail
    refine (CR.out _).mono ?_; rintro e w1 ⟨rfl, hb⟩; have hz := hb.size; (try simp only [World.size_alloc, World.heap_drewN, World.size_drew, World.size_setCell] at hz)
    go_wp2
    go_ret2
    exact ⟨rfl, bel⟩
end Go.Proofs.Ytijgabippedhpaa
