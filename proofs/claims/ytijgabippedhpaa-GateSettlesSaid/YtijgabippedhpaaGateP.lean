
import Derived.Test.YtijgabippedhpaaRows
import Derived.Test.YtijgabippedhpaaGateD
import Derived.Test.YtijgabippedhpaaVoteV
namespace Go.Proofs.Ytijgabippedhpaa
set_option linter.unusedVariables false
set_option linter.unusedSimpArgs false
open Go.ChangeShapes Go.WideShapes Go.RowKit

/-! The program's own calls: what a port takes in. -/
theorem gCs_any (p : Int) (w : World) : Calls Try.prog 39 #[.int .i64 p] w fun e w' => e = .returned (.agg #[.int .i64 1, .int .i64 p]) ∧ Below w.heap.size w w' := by
  go_enter Try.func39, Try.ntmps39
  go_wp2
  refine bodyPost_ret (ret_cell Try.results39 (w.heap.size) [.int .i64 1, .int .i64 p] _ rfl rng Try.underlying32 rfl (by kernel_rfl)) rfl ⟨rfl, ?_⟩; exact bel
theorem gInfo_any (p : Int) (w : World) : Calls Try.prog 21 #[.int .i64 p] w fun e w' => e = .returned (.agg #[.int .i64 2, .int .i64 p]) ∧ Below w.heap.size w w' := by
  go_enter Try.func21, Try.ntmps21
  go_wp2
  refine bodyPost_ret (ret_cell Try.results21 (w.heap.size) [.int .i64 2, .int .i64 p] _ rfl rng Try.underlying32 rfl (by kernel_rfl)) rfl ⟨rfl, ?_⟩; exact bel
/-- May port 'p' take in the frame of kind 'k' and number 'i'? -/
def fit1 (p k i : Int) : Bool := decide ((k = 0 ∧ i = 0) ∨ ((k = 1 ∨ k = 2) ∧ i = p))
theorem fit1_at {l : Nat → Int} {p : Nat} : fit1 p (l (p * 2)) (l (p * 2 + 1)) = decide (Gate.At l p) := rfl
/-- Its two fields, and how they compare. -/
def fr2 (k i : Int) (j : Nat) : Int := if j = 0 then k else i
set_option maxHeartbeats 2000000 in
theorem gfits_any (p k i : Int) (w : World) : Calls Try.prog 31 #[.int .i64 p, .agg #[.int .i64 k, .int .i64 i]] w fun e w' => e = .returned (.bool (fit1 p k i)) ∧ Below w.heap.size w w' := by
  have CC := Lib.hid (fun w => gCs_any p w)
  have CI := Lib.hid (fun w => gInfo_any p w)
  by_cases h0 : k = 0 ∧ i = 0
  · obtain ⟨rfl, rfl⟩ := h0
    rw [show fit1 p 0 0 = true from decide_eq_true (Or.inl ⟨rfl, rfl⟩)]
    go_enter Try.func31, Try.ntmps31
    go_wp2
    go_ret
    exact ⟨rfl, bel⟩
  · have hfr : ∃ fr : Nat → Int, fr 0 = k ∧ fr 1 = i := ⟨fr2 k i, rfl, rfl⟩
    obtain ⟨fr, fr0, fr1⟩ := hfr
    have F0 := Lib.hid fr0
    have F1 := Lib.hid fr1
    have HV : Hid (fit1 p k i = decide ((k = 0 ∧ i = 0) ∨ ((k = 1 ∨ k = 2) ∧ i = p))) := rfl
    have HI := Lib.hid (Ints.two w k i 32 fr fr0 fr1)
    have HB := Lib.hid (kalloc (Below.refl w.heap.size w) (.cells #[.int .i64 k, .int .i64 i] 32))
    generalize fit1 p k i = r at *
    clear fr0 fr1
    by_cases hk : k = 0
    · subst hk
      have hi : (i == 0) = false := by simp; omega
      have hi2 : ¬ i = 0 := by omega
      clear h0
      cases hip : (i == p)
      all_goals
        go_enter Try.func31, Try.ntmps31
        go_upto_region 3 with fail
        generalize w.alloc _ = w0 at *
        refine region_below (by kernel_rfl) (by kernel_rfl) ?_; intro wR HW; have HBR := Lib.hid (show Below w.heap.size w wR from by have := HB.out; rw [← HW.out]; exact bel); have HIR := Lib.hid (show Ints wR w.heap.size 2 fr from by rw [← HW.out]; exact HI.out); have c0 := cell_regrown (HIR.out.2 0 (by decide)).1; have c1 := cell_regrown (HIR.out.2 1 (by decide)).1; rw [F0.out] at c0; rw [F1.out] at c1; have hz := HIR.out.1; (repeat (first | go_big_quiet_step (with_reducible exact Calls.regrown_of (CC.out _)) | quiet_step (with_reducible exact Calls.regrown_of (CC.out _)))); refine wpQuiet_nil ?_; intro w2 hb2; have HBw2 := Lib.hid (show Below w.heap.size w w2 from by have := HBR.out; exact bthru hb2 this); have HIw2 := Lib.hid (HIR.out.below hb2); clear hb2 HIR HBR c0 c1 hz HW
        go_upto_region 4 with fail
        refine region_below (by kernel_rfl) (by kernel_rfl) ?_; intro wR HW; have HBR := Lib.hid (show Below w.heap.size w wR from by have := HBw2.out; rw [← HW.out]; exact bel); have HIR := Lib.hid (show Ints wR w.heap.size 2 fr from by rw [← HW.out]; exact HIw2.out); have c0 := cell_regrown (HIR.out.2 0 (by decide)).1; have c1 := cell_regrown (HIR.out.2 1 (by decide)).1; rw [F0.out] at c0; rw [F1.out] at c1; have hz := HIR.out.1; (repeat (first | go_big_quiet_step (with_reducible exact Calls.regrown_of (CI.out _)) | quiet_step (with_reducible exact Calls.regrown_of (CI.out _)))); refine wpQuiet_nil ?_; intro w3 hb2; have HBw2w3 := Lib.hid (show Below w.heap.size w w3 from by have := HBR.out; exact bthru hb2 this); have HIw2w3 := Lib.hid (HIR.out.below hb2); clear hb2 HIR HBR c0 c1 hz HW
        have := HBw2w3.out
        go_wp2
        go_ret
        exact ⟨ret_bool (by rw [HV.out]; simp [hi2]), bel⟩
    · clear h0
      by_cases hk1 : k = 1
      · subst hk1
        clear hk
        by_cases hip : i = p
        · subst hip
          go_enter Try.func31, Try.ntmps31
          go_upto_region 3 with fail
          generalize w.alloc _ = w0 at *
          refine region_below (by kernel_rfl) (by kernel_rfl) ?_; intro wR HW; have HBR := Lib.hid (show Below w.heap.size w wR from by have := HB.out; rw [← HW.out]; exact bel); have HIR := Lib.hid (show Ints wR w.heap.size 2 fr from by rw [← HW.out]; exact HI.out); have c0 := cell_regrown (HIR.out.2 0 (by decide)).1; have c1 := cell_regrown (HIR.out.2 1 (by decide)).1; rw [F0.out] at c0; rw [F1.out] at c1; have hz := HIR.out.1; (repeat (first | go_big_quiet_step (with_reducible exact Calls.regrown_of (CC.out _)) | quiet_step (with_reducible exact Calls.regrown_of (CC.out _)))); refine wpQuiet_nil ?_; intro w2 hb2; have HBw2 := Lib.hid (show Below w.heap.size w w2 from by have := HBR.out; exact bthru hb2 this); have HIw2 := Lib.hid (HIR.out.below hb2); clear hb2 HIR HBR c0 c1 hz HW
          have := HBw2.out
          go_wp2
          go_ret
          exact ⟨ret_bool (by rw [HV.out]; simp [HV.out]), bel⟩
        · have hip2 : (i == p) = false := by simp [hip]
          go_enter Try.func31, Try.ntmps31
          go_upto_region 3 with fail
          generalize w.alloc _ = w0 at *
          refine region_below (by kernel_rfl) (by kernel_rfl) ?_; intro wR HW; have HBR := Lib.hid (show Below w.heap.size w wR from by have := HB.out; rw [← HW.out]; exact bel); have HIR := Lib.hid (show Ints wR w.heap.size 2 fr from by rw [← HW.out]; exact HI.out); have c0 := cell_regrown (HIR.out.2 0 (by decide)).1; have c1 := cell_regrown (HIR.out.2 1 (by decide)).1; rw [F0.out] at c0; rw [F1.out] at c1; have hz := HIR.out.1; (repeat (first | go_big_quiet_step (with_reducible exact Calls.regrown_of (CC.out _)) | quiet_step (with_reducible exact Calls.regrown_of (CC.out _)))); refine wpQuiet_nil ?_; intro w2 hb2; have HBw2 := Lib.hid (show Below w.heap.size w w2 from by have := HBR.out; exact bthru hb2 this); have HIw2 := Lib.hid (HIR.out.below hb2); clear hb2 HIR HBR c0 c1 hz HW
          go_upto_region 4 with fail
          refine region_below (by kernel_rfl) (by kernel_rfl) ?_; intro wR HW; have HBR := Lib.hid (show Below w.heap.size w wR from by have := HBw2.out; rw [← HW.out]; exact bel); have HIR := Lib.hid (show Ints wR w.heap.size 2 fr from by rw [← HW.out]; exact HIw2.out); have c0 := cell_regrown (HIR.out.2 0 (by decide)).1; have c1 := cell_regrown (HIR.out.2 1 (by decide)).1; rw [F0.out] at c0; rw [F1.out] at c1; have hz := HIR.out.1; (repeat (first | go_big_quiet_step (with_reducible exact Calls.regrown_of (CI.out _)) | quiet_step (with_reducible exact Calls.regrown_of (CI.out _)))); refine wpQuiet_nil ?_; intro w3 hb2; have HBw2w3 := Lib.hid (show Below w.heap.size w w3 from by have := HBR.out; exact bthru hb2 this); have HIw2w3 := Lib.hid (HIR.out.below hb2); clear hb2 HIR HBR c0 c1 hz HW
          have := HBw2w3.out
          go_wp2
          go_ret
          exact ⟨ret_bool (by rw [HV.out]; simp [hip]), bel⟩
      · by_cases hk2 : k = 2
        · subst hk2
          clear hk hk1
          by_cases hip : i = p
          · subst hip
            go_enter Try.func31, Try.ntmps31
            go_upto_region 3 with fail
            generalize w.alloc _ = w0 at *
            refine region_below (by kernel_rfl) (by kernel_rfl) ?_; intro wR HW; have HBR := Lib.hid (show Below w.heap.size w wR from by have := HB.out; rw [← HW.out]; exact bel); have HIR := Lib.hid (show Ints wR w.heap.size 2 fr from by rw [← HW.out]; exact HI.out); have c0 := cell_regrown (HIR.out.2 0 (by decide)).1; have c1 := cell_regrown (HIR.out.2 1 (by decide)).1; rw [F0.out] at c0; rw [F1.out] at c1; have hz := HIR.out.1; (repeat (first | go_big_quiet_step (with_reducible exact Calls.regrown_of (CC.out _)) | quiet_step (with_reducible exact Calls.regrown_of (CC.out _)))); refine wpQuiet_nil ?_; intro w2 hb2; have HBw2 := Lib.hid (show Below w.heap.size w w2 from by have := HBR.out; exact bthru hb2 this); have HIw2 := Lib.hid (HIR.out.below hb2); clear hb2 HIR HBR c0 c1 hz HW
            go_upto_region 4 with fail
            refine region_below (by kernel_rfl) (by kernel_rfl) ?_; intro wR HW; have HBR := Lib.hid (show Below w.heap.size w wR from by have := HBw2.out; rw [← HW.out]; exact bel); have HIR := Lib.hid (show Ints wR w.heap.size 2 fr from by rw [← HW.out]; exact HIw2.out); have c0 := cell_regrown (HIR.out.2 0 (by decide)).1; have c1 := cell_regrown (HIR.out.2 1 (by decide)).1; rw [F0.out] at c0; rw [F1.out] at c1; have hz := HIR.out.1; (repeat (first | go_big_quiet_step (with_reducible exact Calls.regrown_of (CI.out _)) | quiet_step (with_reducible exact Calls.regrown_of (CI.out _)))); refine wpQuiet_nil ?_; intro w3 hb2; have HBw2w3 := Lib.hid (show Below w.heap.size w w3 from by have := HBR.out; exact bthru hb2 this); have HIw2w3 := Lib.hid (HIR.out.below hb2); clear hb2 HIR HBR c0 c1 hz HW
            have := HBw2w3.out
            go_wp2
            go_ret
            exact ⟨ret_bool (by rw [HV.out]; simp [HV.out]), bel⟩
          · have hip2 : (i == p) = false := by simp [hip]
            go_enter Try.func31, Try.ntmps31
            go_upto_region 3 with fail
            generalize w.alloc _ = w0 at *
            refine region_below (by kernel_rfl) (by kernel_rfl) ?_; intro wR HW; have HBR := Lib.hid (show Below w.heap.size w wR from by have := HB.out; rw [← HW.out]; exact bel); have HIR := Lib.hid (show Ints wR w.heap.size 2 fr from by rw [← HW.out]; exact HI.out); have c0 := cell_regrown (HIR.out.2 0 (by decide)).1; have c1 := cell_regrown (HIR.out.2 1 (by decide)).1; rw [F0.out] at c0; rw [F1.out] at c1; have hz := HIR.out.1; (repeat (first | go_big_quiet_step (with_reducible exact Calls.regrown_of (CC.out _)) | quiet_step (with_reducible exact Calls.regrown_of (CC.out _)))); refine wpQuiet_nil ?_; intro w2 hb2; have HBw2 := Lib.hid (show Below w.heap.size w w2 from by have := HBR.out; exact bthru hb2 this); have HIw2 := Lib.hid (HIR.out.below hb2); clear hb2 HIR HBR c0 c1 hz HW
            go_upto_region 4 with fail
            refine region_below (by kernel_rfl) (by kernel_rfl) ?_; intro wR HW; have HBR := Lib.hid (show Below w.heap.size w wR from by have := HBw2.out; rw [← HW.out]; exact bel); have HIR := Lib.hid (show Ints wR w.heap.size 2 fr from by rw [← HW.out]; exact HIw2.out); have c0 := cell_regrown (HIR.out.2 0 (by decide)).1; have c1 := cell_regrown (HIR.out.2 1 (by decide)).1; rw [F0.out] at c0; rw [F1.out] at c1; have hz := HIR.out.1; (repeat (first | go_big_quiet_step (with_reducible exact Calls.regrown_of (CI.out _)) | quiet_step (with_reducible exact Calls.regrown_of (CI.out _)))); refine wpQuiet_nil ?_; intro w3 hb2; have HBw2w3 := Lib.hid (show Below w.heap.size w w3 from by have := HBR.out; exact bthru hb2 this); have HIw2w3 := Lib.hid (HIR.out.below hb2); clear hb2 HIR HBR c0 c1 hz HW
            have := HBw2w3.out
            go_wp2
            go_ret
            exact ⟨ret_bool (by rw [HV.out]; simp [hip]), bel⟩
        · have e0 : (k == 0) = false := by simp [hk]
          have e1 : (k == 1) = false := by simp [hk1]
          have e2 : (k == 2) = false := by simp [hk2]
          go_enter Try.func31, Try.ntmps31
          go_upto_region 3 with fail
          generalize w.alloc _ = w0 at *
          refine region_below (by kernel_rfl) (by kernel_rfl) ?_; intro wR HW; have HBR := Lib.hid (show Below w.heap.size w wR from by have := HB.out; rw [← HW.out]; exact bel); have HIR := Lib.hid (show Ints wR w.heap.size 2 fr from by rw [← HW.out]; exact HI.out); have c0 := cell_regrown (HIR.out.2 0 (by decide)).1; have c1 := cell_regrown (HIR.out.2 1 (by decide)).1; rw [F0.out] at c0; rw [F1.out] at c1; have hz := HIR.out.1; (repeat (first | go_big_quiet_step (with_reducible exact Calls.regrown_of (CC.out _)) | quiet_step (with_reducible exact Calls.regrown_of (CC.out _)))); refine wpQuiet_nil ?_; intro w2 hb2; have HBw2 := Lib.hid (show Below w.heap.size w w2 from by have := HBR.out; exact bthru hb2 this); have HIw2 := Lib.hid (HIR.out.below hb2); clear hb2 HIR HBR c0 c1 hz HW
          go_upto_region 4 with fail
          refine region_below (by kernel_rfl) (by kernel_rfl) ?_; intro wR HW; have HBR := Lib.hid (show Below w.heap.size w wR from by have := HBw2.out; rw [← HW.out]; exact bel); have HIR := Lib.hid (show Ints wR w.heap.size 2 fr from by rw [← HW.out]; exact HIw2.out); have c0 := cell_regrown (HIR.out.2 0 (by decide)).1; have c1 := cell_regrown (HIR.out.2 1 (by decide)).1; rw [F0.out] at c0; rw [F1.out] at c1; have hz := HIR.out.1; (repeat (first | go_big_quiet_step (with_reducible exact Calls.regrown_of (CI.out _)) | quiet_step (with_reducible exact Calls.regrown_of (CI.out _)))); refine wpQuiet_nil ?_; intro w3 hb2; have HBw2w3 := Lib.hid (show Below w.heap.size w w3 from by have := HBR.out; exact bthru hb2 this); have HIw2w3 := Lib.hid (HIR.out.below hb2); clear hb2 HIR HBR c0 c1 hz HW
          have := HBw2w3.out
          go_wp2
          go_ret
          exact ⟨ret_bool (by rw [HV.out]; simp [hk, hk1, hk2]), bel⟩
theorem fits_len {n : Int} {m : Nat} {l : Nat → Int} (h : ¬ (m : Int) = n) : Gate.fits n m l = false := Gate.fits_no (fun q => h q.2.1)
theorem fits_at {m : Nat} {l : Nat → Int} {K : Nat} (hK : K < m) (h : decide (Gate.At l K) = false) : Gate.fits m m l = false := Gate.fits_no (fun q => of_decide_eq_false h (q.2.2 K hK))
theorem cright_any' (n : Int) (w : World) : Calls Try.prog 30 #[.int .i64 n] w fun e w' => e = .returned (.bool (Conf.right n)) ∧ w = w' := cright_any n w
set_option maxHeartbeats 2000000 in
theorem gFits_any (n : Int) (va : Value) (m : Nat) (l : Nat → Int) (w : World) (hm : m ≤ 1000) (hl : Prs w va m l) :
    Calls Try.prog 14 #[.int .i64 n, va] w fun e w' => e = .returned (.bool (Gate.fits n m l)) ∧ Below w.heap.size w w' := by
  obtain ⟨p1, c1, rfl⟩ := hl.form
  have HL := Lib.hid hl
  clear hl
  by_cases hr : Conf.right n = true
  · have h38 := Conf.right_spec.1 hr
    by_cases he : (m : Int) = n
    · have HF := Lib.hid (fun (h : ∀ p, p < m → Gate.At l p) => (Gate.fits_iff (n := n) (m := m) (l := l)).2 ⟨h38, he, h⟩)
      subst he
      have HN := Lib.hid (fun K (hK : K < m) h => fits_at (m := m) (l := l) (K := K) hK h)
      generalize Gate.fits m m l = r at *
      go_enter Try.func14, Try.ntmps14
      go_wp2_with fail
      refine (cright_any' _ _).mono ?_; rintro e w' ⟨rfl, rfl⟩
      rw [hr]
      clear hr h38
      go_wp2_with fail
      go_loopw [18] (fun k wr => ∃ K : Nat, K ≤ m ∧ k = .int .i64 K ∧ Below w.heap.size w wr ∧ ∀ p, p < K → Gate.At l p) (fun k _ => m - (intOf k).toNat)
      case atStart => exact ⟨0, by omega, rfl, bel, fun j hj => by omega⟩
      case round =>
        obtain ⟨K, hK, rfl, hb, hq⟩ := hrel
        have HB := Lib.hid hb
        have HQ := Lib.hid hq
        by_cases hlt : K < m
        · have h1 : (K : Int) < m := by omega
          have h0 : (0 : Int) ≤ K := by omega
          obtain ⟨b1, o1, rfl, hl1, hc1⟩ := HL.out.some (by omega)
          obtain ⟨c0, c1⟩ := two_cells hc1 hb hlt
          clear hb hq hc1
          have CF := Lib.hid (fun w => gfits_any (K : Int) (l (K * 2)) (l (K * 2 + 1)) w)
          rw [fit1_at] at CF
          have HN := Lib.hid (fun h => HN.out K hlt h)
          have HY : Hid (decide (Gate.At l K) = true → Gate.At l K) := fun h => of_decide_eq_true h
          generalize decide (Gate.At l K) = z at *
          go_wp2_with fail
          refine (CF.out _).mono ?_; rintro e w1 ⟨rfl, hb⟩; have hz := hb.size; (try simp only [World.size_alloc, World.heap_drewN, World.size_drew, World.size_setCell] at hz)
          have HB1 := Lib.hid (show Below w.heap.size w w1 from by have := HB.out; exact bel)
          clear hb HB
          cases z
          · have := HB1.out
            go_wp2
            go_ret
            exact ⟨ret_bool (HN.out (by simp)).symm, bel⟩
          · go_wp2
            go_roundw
            case rel =>
              refine ⟨K + 1, by omega, by go_num, HB1.out, fun j hj => ?_⟩
              by_cases e : j = K
              · subst e; exact HY.out (by simp)
              · exact HQ.out j (by omega)
            case measure => simp [intOf]; omega
        · obtain rfl : K = m := by omega
          clear hb hq
          have := HB.out
          go_wp2
          go_ret
          exact ⟨ret_bool (HF.out HQ.out).symm, bel⟩
    · rw [fits_len he]
      have e0 : ((m : Int) != n) = true := by simp [he]
      clear he
      go_enter Try.func14, Try.ntmps14
      go_wp2_with fail
      refine (cright_any' _ _).mono ?_; rintro e w' ⟨rfl, rfl⟩
      rw [hr]
      go_wp2
      go_ret
      exact ⟨rfl, bel⟩
  · rw [Gate.fits_no (fun q => hr (Conf.right_spec.2 q.1))]
    have hr := Bool.eq_false_iff.2 hr
    go_enter Try.func14, Try.ntmps14
    go_wp2_with fail
    refine (cright_any' _ _).mono ?_; rintro e w' ⟨rfl, rfl⟩
    rw [hr]
    go_wp2
    go_ret
    exact ⟨rfl, bel⟩
set_option maxHeartbeats 2000000 in
theorem gcheck_any (n : Int) (f : Nat → Int) (va : Value) (m : Nat) (l : Nat → Int) (w : World) (hf : Bd12 f) (hm : m ≤ 1000) (hl : Prs w va m l) :
    Calls Try.prog 20 #[.int .i64 n, .agg #[.int .i64 (f 0), .int .i64 (f 1), .int .i64 (f 2), .int .i64 (f 3), .int .i64 (f 4), .int .i64 (f 5), .int .i64 (f 6), .int .i64 (f 7), .int .i64 (f 8), .int .i64 (f 9), .int .i64 (f 10), .int .i64 (f 11)], va] w fun e w' => e = .returned (.int .i64 (Gate.wrong n f m l)) ∧ Below w.heap.size w w' := by
  have HW : Hid (Gate.wrong n f m l = if Vote.ok n f = true then (if Gate.fits n m l = true then 0 else 2) else 1) := rfl
  have CR := Lib.hid (fun w => vRight_any n f w hf)
  have CF := Lib.hid (fun w hl => gFits_any n va m l w hm hl)
  have HL := Lib.hid hl
  generalize Gate.wrong n f m l = r at *
  generalize Gate.fits n m l = fi at *
  generalize Vote.ok n f = ok at *
  clear hl
  go_enter Try.func20, Try.ntmps20
  go_wp2_with fail
  refine (CR.out _).mono ?_; rintro e w1 ⟨rfl, hb⟩; have hz := hb.size; (try simp only [World.size_alloc, World.heap_drewN, World.size_drew, World.size_setCell] at hz)
  have HB1 := Lib.hid (show Below w.heap.size w w1 from bel)
  clear hb
  cases ok
  · have := HB1.out
    go_wp2
    go_ret
    exact ⟨ret_int (by rw [HW.out]; rfl), bel⟩
  · go_wp2_with fail
    refine (CF.out _ (HL.out.below HB1.out)).mono ?_; rintro e w2 ⟨rfl, hb⟩; have hz := hb.size; (try simp only [World.size_alloc, World.heap_drewN, World.size_drew, World.size_setCell] at hz)
    have HB2 := Lib.hid (show Below w.heap.size w w2 from by have := HB1.out; exact bel)
    clear hb
    have := HB2.out
    cases fi
    all_goals
      go_wp2
      go_ret
      exact ⟨ret_int (by rw [HW.out]; rfl), bel⟩
end Go.Proofs.Ytijgabippedhpaa
