
import Derived.Test.YtkdmmomfolhfbaaRows
import Derived.Test.YtkdmmomfolhfbaaGateX
import Derived.Test.YtkdmmomfolhfbaaVoteY
import Derived.Test.YtkdmmomfolhfbaaMem
namespace Go.Proofs.Ytkdmmomfolhfbaa
set_option linter.unusedVariables false
set_option linter.unusedSimpArgs false
open Go.ChangeShapes Go.WideShapes Go.RowKit

/-! The program's own calls: what a port takes in. -/
theorem gCs_any (p : Int) (w : World) : Calls Try.prog 54 #[.int .i64 p] w fun e w' => e = .returned (.agg #[.int .i64 1, .int .i64 p]) ∧ Below w.heap.size w w' := by
  go_enter Try.func54, Try.ntmps54
  go_wp2
  refine bodyPost_ret (ret_cell Try.results54 (w.heap.size) [.int .i64 1, .int .i64 p] _ rfl rng Try.underlying33 rfl (by kernel_rfl)) rfl ⟨rfl, ?_⟩; exact bel
theorem gInfo_any (p : Int) (w : World) : Calls Try.prog 35 #[.int .i64 p] w fun e w' => e = .returned (.agg #[.int .i64 2, .int .i64 p]) ∧ Below w.heap.size w w' := by
  go_enter Try.func35, Try.ntmps35
  go_wp2
  refine bodyPost_ret (ret_cell Try.results35 (w.heap.size) [.int .i64 2, .int .i64 p] _ rfl rng Try.underlying33 rfl (by kernel_rfl)) rfl ⟨rfl, ?_⟩; exact bel
/-- May port 'p' take in the frame of kind 'k' and number 'i'? -/
def fit1 (p k i : Int) : Bool := decide ((k = 0 ∧ i = 0) ∨ ((k = 1 ∨ k = 2) ∧ i = p))
theorem fit1_at {l : Nat → Int} {p : Nat} : fit1 p (l (p * 2)) (l (p * 2 + 1)) = decide (Gate.At l p) := rfl
/-- Its two fields, and how they compare. -/
def fr2 (k i : Int) (j : Nat) : Int := if j = 0 then k else i
set_option maxHeartbeats 2000000 in
theorem gfits_any (p k i : Int) (w : World) : Calls Try.prog 57 #[.int .i64 p, .agg #[.int .i64 k, .int .i64 i]] w fun e w' => e = .returned (.bool (fit1 p k i)) ∧ Below w.heap.size w w' := by
  have CC := Lib.hid (fun w => gCs_any p w)
  have CI := Lib.hid (fun w => gInfo_any p w)
  by_cases h0 : k = 0 ∧ i = 0
  · obtain ⟨rfl, rfl⟩ := h0
    rw [show fit1 p 0 0 = true from decide_eq_true (Or.inl ⟨rfl, rfl⟩)]
    go_enter Try.func57, Try.ntmps57
    go_wp2
    go_ret
    exact ⟨rfl, bel⟩
  · have hfr : ∃ fr : Nat → Int, fr 0 = k ∧ fr 1 = i := ⟨fr2 k i, rfl, rfl⟩
    obtain ⟨fr, fr0, fr1⟩ := hfr
    have F0 := Lib.hid fr0
    have F1 := Lib.hid fr1
    have HV : Hid (fit1 p k i = decide ((k = 0 ∧ i = 0) ∨ ((k = 1 ∨ k = 2) ∧ i = p))) := rfl
    have HI := Lib.hid (Ints.two w k i 33 fr fr0 fr1)
    have HB := Lib.hid (kalloc (Below.refl w.heap.size w) (.cells #[.int .i64 k, .int .i64 i] 33))
    generalize fit1 p k i = r at *
    clear fr0 fr1
    by_cases hk : k = 0
    · subst hk
      have hi : (i == 0) = false := by simp; omega
      have hi2 : ¬ i = 0 := by omega
      clear h0
      cases hip : (i == p)
      all_goals
        go_enter Try.func57, Try.ntmps57
        go_upto_region 3 with fail
        generalize w.alloc _ = w0 at *
        refine region_below (by kernel_rfl) (by kernel_rfl) ?_; intro wR HW; have HBR := Lib.hid (show Below w.heap.size w wR from by have := HB.out; rw [← HW.out]; exact bel); have HIR := Lib.hid (show Ints wR w.heap.size 2 fr from by rw [← HW.out]; exact HI.out); have c0 := cell_regrown (HIR.out.2 0 (by decide)).1; have c1 := cell_regrown (HIR.out.2 1 (by decide)).1; rw [F0.out] at c0; rw [F1.out] at c1; have hz := HIR.out.1; (repeat (first | go_big_quiet_step (with_reducible exact Calls.regrown_of (CC.out _)) | quiet_step (with_reducible exact Calls.regrown_of (CC.out _)))); refine wpQuiet_nil ?_; intro w2 hb2; have HBw2 := Lib.hid (show Below w.heap.size w w2 from by have := HBR.out; exact bthru hb2 this); have HIw2 := Lib.hid (HIR.out.below hb2); clear hb2 HIR HBR c0 c1 hz HW
        go_upto_region 4 with fail
        refine region_below (by kernel_rfl) (by kernel_rfl) ?_; intro wR HW; have HBR := Lib.hid (show Below w.heap.size w wR from by have := HBw2.out; rw [← HW.out]; exact bel); have HIR := Lib.hid (show Ints wR w.heap.size 2 fr from by rw [← HW.out]; exact HIw2.out); have c0 := cell_regrown (HIR.out.2 0 (by decide)).1; have c1 := cell_regrown (HIR.out.2 1 (by decide)).1; rw [F0.out] at c0; rw [F1.out] at c1; have hz := HIR.out.1; (repeat (first | go_big_quiet_step (with_reducible exact Calls.regrown_of (CI.out _)) | quiet_step (with_reducible exact Calls.regrown_of (CI.out _)))); refine wpQuiet_nil ?_; intro w3 hb2; have HBw2w3 := Lib.hid (show Below w.heap.size w w3 from by have := HBR.out; exact bthru hb2 this); have HIw2w3 := Lib.hid (HIR.out.below hb2); clear hb2 HIR HBR c0 c1 hz HW
        have := HBw2w3.out
        go_wp2
        go_ret
        exact ⟨ret_bool (by rw [HV.out]; simp [hi2]), bel⟩
    · clear h0
      by_cases hk1 : k = 1
      · subst hk1
        clear hk
        by_cases hip : i = p
        · subst hip
          go_enter Try.func57, Try.ntmps57
          go_upto_region 3 with fail
          generalize w.alloc _ = w0 at *
          refine region_below (by kernel_rfl) (by kernel_rfl) ?_; intro wR HW; have HBR := Lib.hid (show Below w.heap.size w wR from by have := HB.out; rw [← HW.out]; exact bel); have HIR := Lib.hid (show Ints wR w.heap.size 2 fr from by rw [← HW.out]; exact HI.out); have c0 := cell_regrown (HIR.out.2 0 (by decide)).1; have c1 := cell_regrown (HIR.out.2 1 (by decide)).1; rw [F0.out] at c0; rw [F1.out] at c1; have hz := HIR.out.1; (repeat (first | go_big_quiet_step (with_reducible exact Calls.regrown_of (CC.out _)) | quiet_step (with_reducible exact Calls.regrown_of (CC.out _)))); refine wpQuiet_nil ?_; intro w2 hb2; have HBw2 := Lib.hid (show Below w.heap.size w w2 from by have := HBR.out; exact bthru hb2 this); have HIw2 := Lib.hid (HIR.out.below hb2); clear hb2 HIR HBR c0 c1 hz HW
          have := HBw2.out
          go_wp2
          go_ret
          exact ⟨ret_bool (by rw [HV.out]; simp [HV.out]), bel⟩
        · have hip2 : (i == p) = false := by simp [hip]
          go_enter Try.func57, Try.ntmps57
          go_upto_region 3 with fail
          generalize w.alloc _ = w0 at *
          refine region_below (by kernel_rfl) (by kernel_rfl) ?_; intro wR HW; have HBR := Lib.hid (show Below w.heap.size w wR from by have := HB.out; rw [← HW.out]; exact bel); have HIR := Lib.hid (show Ints wR w.heap.size 2 fr from by rw [← HW.out]; exact HI.out); have c0 := cell_regrown (HIR.out.2 0 (by decide)).1; have c1 := cell_regrown (HIR.out.2 1 (by decide)).1; rw [F0.out] at c0; rw [F1.out] at c1; have hz := HIR.out.1; (repeat (first | go_big_quiet_step (with_reducible exact Calls.regrown_of (CC.out _)) | quiet_step (with_reducible exact Calls.regrown_of (CC.out _)))); refine wpQuiet_nil ?_; intro w2 hb2; have HBw2 := Lib.hid (show Below w.heap.size w w2 from by have := HBR.out; exact bthru hb2 this); have HIw2 := Lib.hid (HIR.out.below hb2); clear hb2 HIR HBR c0 c1 hz HW
          go_upto_region 4 with fail
          refine region_below (by kernel_rfl) (by kernel_rfl) ?_; intro wR HW; have HBR := Lib.hid (show Below w.heap.size w wR from by have := HBw2.out; rw [← HW.out]; exact bel); have HIR := Lib.hid (show Ints wR w.heap.size 2 fr from by rw [← HW.out]; exact HIw2.out); have c0 := cell_regrown (HIR.out.2 0 (by decide)).1; have c1 := cell_regrown (HIR.out.2 1 (by decide)).1; rw [F0.out] at c0; rw [F1.out] at c1; have hz := HIR.out.1; (repeat (first | go_big_quiet_step (with_reducible exact Calls.regrown_of (CI.out _)) | quiet_step (with_reducible exact Calls.regrown_of (CI.out _)))); refine wpQuiet_nil ?_; intro w3 hb2; have HBw2w3 := Lib.hid (show Below w.heap.size w w3 from by have := HBR.out; exact bthru hb2 this); have HIw2w3 := Lib.hid (HIR.out.below hb2); clear hb2 HIR HBR c0 c1 hz HW
          have := HBw2w3.out
          go_wp2
          go_ret
          exact ⟨ret_bool (by rw [HV.out]; simp [hip]), bel⟩
      · by_cases hk2 : k = 2
        · subst hk2
          clear hk hk1
          by_cases hip : i = p
          · subst hip
            go_enter Try.func57, Try.ntmps57
            go_upto_region 3 with fail
            generalize w.alloc _ = w0 at *
            refine region_below (by kernel_rfl) (by kernel_rfl) ?_; intro wR HW; have HBR := Lib.hid (show Below w.heap.size w wR from by have := HB.out; rw [← HW.out]; exact bel); have HIR := Lib.hid (show Ints wR w.heap.size 2 fr from by rw [← HW.out]; exact HI.out); have c0 := cell_regrown (HIR.out.2 0 (by decide)).1; have c1 := cell_regrown (HIR.out.2 1 (by decide)).1; rw [F0.out] at c0; rw [F1.out] at c1; have hz := HIR.out.1; (repeat (first | go_big_quiet_step (with_reducible exact Calls.regrown_of (CC.out _)) | quiet_step (with_reducible exact Calls.regrown_of (CC.out _)))); refine wpQuiet_nil ?_; intro w2 hb2; have HBw2 := Lib.hid (show Below w.heap.size w w2 from by have := HBR.out; exact bthru hb2 this); have HIw2 := Lib.hid (HIR.out.below hb2); clear hb2 HIR HBR c0 c1 hz HW
            go_upto_region 4 with fail
            refine region_below (by kernel_rfl) (by kernel_rfl) ?_; intro wR HW; have HBR := Lib.hid (show Below w.heap.size w wR from by have := HBw2.out; rw [← HW.out]; exact bel); have HIR := Lib.hid (show Ints wR w.heap.size 2 fr from by rw [← HW.out]; exact HIw2.out); have c0 := cell_regrown (HIR.out.2 0 (by decide)).1; have c1 := cell_regrown (HIR.out.2 1 (by decide)).1; rw [F0.out] at c0; rw [F1.out] at c1; have hz := HIR.out.1; (repeat (first | go_big_quiet_step (with_reducible exact Calls.regrown_of (CI.out _)) | quiet_step (with_reducible exact Calls.regrown_of (CI.out _)))); refine wpQuiet_nil ?_; intro w3 hb2; have HBw2w3 := Lib.hid (show Below w.heap.size w w3 from by have := HBR.out; exact bthru hb2 this); have HIw2w3 := Lib.hid (HIR.out.below hb2); clear hb2 HIR HBR c0 c1 hz HW
            have := HBw2w3.out
            go_wp2
            go_ret
            exact ⟨ret_bool (by rw [HV.out]; simp [HV.out]), bel⟩
          · have hip2 : (i == p) = false := by simp [hip]
            go_enter Try.func57, Try.ntmps57
            go_upto_region 3 with fail
            generalize w.alloc _ = w0 at *
            refine region_below (by kernel_rfl) (by kernel_rfl) ?_; intro wR HW; have HBR := Lib.hid (show Below w.heap.size w wR from by have := HB.out; rw [← HW.out]; exact bel); have HIR := Lib.hid (show Ints wR w.heap.size 2 fr from by rw [← HW.out]; exact HI.out); have c0 := cell_regrown (HIR.out.2 0 (by decide)).1; have c1 := cell_regrown (HIR.out.2 1 (by decide)).1; rw [F0.out] at c0; rw [F1.out] at c1; have hz := HIR.out.1; (repeat (first | go_big_quiet_step (with_reducible exact Calls.regrown_of (CC.out _)) | quiet_step (with_reducible exact Calls.regrown_of (CC.out _)))); refine wpQuiet_nil ?_; intro w2 hb2; have HBw2 := Lib.hid (show Below w.heap.size w w2 from by have := HBR.out; exact bthru hb2 this); have HIw2 := Lib.hid (HIR.out.below hb2); clear hb2 HIR HBR c0 c1 hz HW
            go_upto_region 4 with fail
            refine region_below (by kernel_rfl) (by kernel_rfl) ?_; intro wR HW; have HBR := Lib.hid (show Below w.heap.size w wR from by have := HBw2.out; rw [← HW.out]; exact bel); have HIR := Lib.hid (show Ints wR w.heap.size 2 fr from by rw [← HW.out]; exact HIw2.out); have c0 := cell_regrown (HIR.out.2 0 (by decide)).1; have c1 := cell_regrown (HIR.out.2 1 (by decide)).1; rw [F0.out] at c0; rw [F1.out] at c1; have hz := HIR.out.1; (repeat (first | go_big_quiet_step (with_reducible exact Calls.regrown_of (CI.out _)) | quiet_step (with_reducible exact Calls.regrown_of (CI.out _)))); refine wpQuiet_nil ?_; intro w3 hb2; have HBw2w3 := Lib.hid (show Below w.heap.size w w3 from by have := HBR.out; exact bthru hb2 this); have HIw2w3 := Lib.hid (HIR.out.below hb2); clear hb2 HIR HBR c0 c1 hz HW
            have := HBw2w3.out
            go_wp2
            go_ret
            exact ⟨ret_bool (by rw [HV.out]; simp [hip]), bel⟩
        · have e0 : (k == 0) = false := by simp [hk]
          have e1 : (k == 1) = false := by simp [hk1]
          have e2 : (k == 2) = false := by simp [hk2]
          go_enter Try.func57, Try.ntmps57
          go_upto_region 3 with fail
          generalize w.alloc _ = w0 at *
          refine region_below (by kernel_rfl) (by kernel_rfl) ?_; intro wR HW; have HBR := Lib.hid (show Below w.heap.size w wR from by have := HB.out; rw [← HW.out]; exact bel); have HIR := Lib.hid (show Ints wR w.heap.size 2 fr from by rw [← HW.out]; exact HI.out); have c0 := cell_regrown (HIR.out.2 0 (by decide)).1; have c1 := cell_regrown (HIR.out.2 1 (by decide)).1; rw [F0.out] at c0; rw [F1.out] at c1; have hz := HIR.out.1; (repeat (first | go_big_quiet_step (with_reducible exact Calls.regrown_of (CC.out _)) | quiet_step (with_reducible exact Calls.regrown_of (CC.out _)))); refine wpQuiet_nil ?_; intro w2 hb2; have HBw2 := Lib.hid (show Below w.heap.size w w2 from by have := HBR.out; exact bthru hb2 this); have HIw2 := Lib.hid (HIR.out.below hb2); clear hb2 HIR HBR c0 c1 hz HW
          go_upto_region 4 with fail
          refine region_below (by kernel_rfl) (by kernel_rfl) ?_; intro wR HW; have HBR := Lib.hid (show Below w.heap.size w wR from by have := HBw2.out; rw [← HW.out]; exact bel); have HIR := Lib.hid (show Ints wR w.heap.size 2 fr from by rw [← HW.out]; exact HIw2.out); have c0 := cell_regrown (HIR.out.2 0 (by decide)).1; have c1 := cell_regrown (HIR.out.2 1 (by decide)).1; rw [F0.out] at c0; rw [F1.out] at c1; have hz := HIR.out.1; (repeat (first | go_big_quiet_step (with_reducible exact Calls.regrown_of (CI.out _)) | quiet_step (with_reducible exact Calls.regrown_of (CI.out _)))); refine wpQuiet_nil ?_; intro w3 hb2; have HBw2w3 := Lib.hid (show Below w.heap.size w w3 from by have := HBR.out; exact bthru hb2 this); have HIw2w3 := Lib.hid (HIR.out.below hb2); clear hb2 HIR HBR c0 c1 hz HW
          have := HBw2w3.out
          go_wp2
          go_ret
          exact ⟨ret_bool (by rw [HV.out]; simp [hk, hk1, hk2]), bel⟩
theorem fits_len {n : Int} {m : Nat} {l : Nat → Int} (h : ¬ (m : Int) = n) : Gate.fits n m l = false := Gate.fits_no (fun q => h q.2.1)
theorem fits_at {m : Nat} {l : Nat → Int} {K : Nat} (hK : K < m) (h : decide (Gate.At l K) = false) : Gate.fits m m l = false := Gate.fits_no (fun q => of_decide_eq_false h (q.2.2 K hK))
theorem cright_any' (n : Int) (w : World) : Calls Try.prog 48 #[.int .i64 n] w fun e w' => e = .returned (.bool (Conf.right n)) ∧ w = w' := cright_any n w
set_option maxHeartbeats 2000000 in
theorem gFits_any (n : Int) (va : Value) (m : Nat) (l : Nat → Int) (w : World) (hm : m ≤ 1000) (hl : Prs w va m l) :
    Calls Try.prog 51 #[.int .i64 n, va] w fun e w' => e = .returned (.bool (Gate.fits n m l)) ∧ Below w.heap.size w w' := by
  obtain ⟨p1, c1, rfl⟩ := hl.form
  have HL := Lib.hid hl
  clear hl
  by_cases hr : Conf.right n = true
  · have h38 := Conf.right_spec.1 hr
    by_cases he : (m : Int) = n
    · have HF := Lib.hid (fun (h : ∀ p, p < m → Gate.At l p) => (Gate.fits_iff (n := n) (m := m) (l := l)).2 ⟨h38, he, h⟩)
      subst he
      have HN := Lib.hid (fun K (hK : K < m) h => fits_at (m := m) (l := l) (K := K) hK h)
      generalize Gate.fits m m l = r at *
      go_enter Try.func51, Try.ntmps51
      go_wp2_with fail
      refine (cright_any' _ _).mono ?_; rintro e w' ⟨rfl, rfl⟩
      rw [hr]
      clear hr h38
      go_wp2_with fail
      go_loopw [18] (fun k wr => ∃ K : Nat, K ≤ m ∧ k = .int .i64 K ∧ Below w.heap.size w wr ∧ ∀ p, p < K → Gate.At l p) (fun k _ => m - (intOf k).toNat)
      case atStart => exact ⟨0, by omega, rfl, bel, fun j hj => by omega⟩
      case round =>
        obtain ⟨K, hK, rfl, hb, hq⟩ := hrel
        have HB := Lib.hid hb
        have HQ := Lib.hid hq
        by_cases hlt : K < m
        · have h1 : (K : Int) < m := by omega
          have h0 : (0 : Int) ≤ K := by omega
          obtain ⟨b1, o1, rfl, hl1, hc1⟩ := HL.out.some (by omega)
          obtain ⟨c0, c1⟩ := two_cells hc1 hb hlt
          clear hb hq hc1
          have CF := Lib.hid (fun w => gfits_any (K : Int) (l (K * 2)) (l (K * 2 + 1)) w)
          rw [fit1_at] at CF
          have HN := Lib.hid (fun h => HN.out K hlt h)
          have HY : Hid (decide (Gate.At l K) = true → Gate.At l K) := fun h => of_decide_eq_true h
          generalize decide (Gate.At l K) = z at *
          go_wp2_with fail
          refine (CF.out _).mono ?_; rintro e w1 ⟨rfl, hb⟩; have hz := hb.size; (try simp only [World.size_alloc, World.heap_drewN, World.size_drew, World.size_setCell] at hz)
          have HB1 := Lib.hid (show Below w.heap.size w w1 from by have := HB.out; exact bel)
          clear hb HB
          cases z
          · have := HB1.out
            go_wp2
            go_ret
            exact ⟨ret_bool (HN.out (by simp)).symm, bel⟩
          · go_wp2
            go_roundw
            case rel =>
              refine ⟨K + 1, by omega, by go_num, HB1.out, fun j hj => ?_⟩
              by_cases e : j = K
              · subst e; exact HY.out (by simp)
              · exact HQ.out j (by omega)
            case measure => simp [intOf]; omega
        · obtain rfl : K = m := by omega
          clear hb hq
          have := HB.out
          go_wp2
          go_ret
          exact ⟨ret_bool (HF.out HQ.out).symm, bel⟩
    · rw [fits_len he]
      have e0 : ((m : Int) != n) = true := by simp [he]
      clear he
      go_enter Try.func51, Try.ntmps51
      go_wp2_with fail
      refine (cright_any' _ _).mono ?_; rintro e w' ⟨rfl, rfl⟩
      rw [hr]
      go_wp2
      go_ret
      exact ⟨rfl, bel⟩
  · rw [Gate.fits_no (fun q => hr (Conf.right_spec.2 q.1))]
    have hr := Bool.eq_false_iff.2 hr
    go_enter Try.func51, Try.ntmps51
    go_wp2_with fail
    refine (cright_any' _ _).mono ?_; rintro e w' ⟨rfl, rfl⟩
    rw [hr]
    go_wp2
    go_ret
    exact ⟨rfl, bel⟩
set_option maxHeartbeats 2000000 in
theorem gcheck_any (n : Int) (f : Nat → Int) (va : Value) (m : Nat) (l : Nat → Int) (w : World) (hf : Bd12 f) (hm : m ≤ 1000) (hl : Prs w va m l) :
    Calls Try.prog 34 #[.int .i64 n, .agg #[.int .i64 (f 0), .int .i64 (f 1), .int .i64 (f 2), .int .i64 (f 3), .int .i64 (f 4), .int .i64 (f 5), .int .i64 (f 6), .int .i64 (f 7), .int .i64 (f 8), .int .i64 (f 9), .int .i64 (f 10), .int .i64 (f 11)], va] w fun e w' => e = .returned (.int .i64 (Gate.wrong n f m l)) ∧ Below w.heap.size w w' := by
  have HW : Hid (Gate.wrong n f m l = if Vote.ok n f = true then (if Gate.fits n m l = true then 0 else 2) else 1) := rfl
  have CR := Lib.hid (fun w => vRight_any n f w hf)
  have CF := Lib.hid (fun w hl => gFits_any n va m l w hm hl)
  have HL := Lib.hid hl
  generalize Gate.wrong n f m l = r at *
  generalize Gate.fits n m l = fi at *
  generalize Vote.ok n f = ok at *
  clear hl
  go_enter Try.func34, Try.ntmps34
  go_wp2_with fail
  refine (CR.out _).mono ?_; rintro e w1 ⟨rfl, hb⟩; have hz := hb.size; (try simp only [World.size_alloc, World.heap_drewN, World.size_drew, World.size_setCell] at hz)
  have HB1 := Lib.hid (show Below w.heap.size w w1 from bel)
  clear hb
  cases ok
  · have := HB1.out
    go_wp2
    go_ret
    exact ⟨ret_int (by rw [HW.out]; rfl), bel⟩
  · go_wp2_with fail
    refine (CF.out _ (HL.out.below HB1.out)).mono ?_; rintro e w2 ⟨rfl, hb⟩; have hz := hb.size; (try simp only [World.size_alloc, World.heap_drewN, World.size_drew, World.size_setCell] at hz)
    have HB2 := Lib.hid (show Below w.heap.size w w2 from by have := HB1.out; exact bel)
    clear hb
    have := HB2.out
    cases fi
    all_goals
      go_wp2
      go_ret
      exact ⟨ret_int (by rw [HW.out]; rfl), bel⟩
end Go.Proofs.Ytkdmmomfolhfbaa
namespace Go.Proofs.Ytkdmmomfolhfbaa
set_option linter.unusedVariables false
set_option linter.unusedSimpArgs false
open Go.ChangeShapes Go.WideShapes Go.RowKit

/-! The program's Note. -/
theorem Ints.frame (w : World) (k i : Int) (t : TypeId) : Ints (((w.alloc (.cells #[.int .i64 0, .int .i64 0] t)).setCell ⟨w.heap.size, 0, none⟩ (.int .i64 k)).setCell ⟨w.heap.size, 1, none⟩ (.int .i64 i)) w.heap.size 2 (fr2 k i) := by
  refine (((Ints.two w 0 0 t (fun _ => 0) rfl rfl).set 0 k (by decide) (fun j => if j = 0 then k else 0) (fun j => rfl)).set 1 i (by decide) (fun j => if j = 1 then i else if j = 0 then k else 0) (fun j => rfl)).like (fun j hj => ?_)
  have h2 : j = 0 ∨ j = 1 := by omega
  rcases h2 with rfl | rfl <;> rfl
theorem frame_below {a w : World} (h : Below a.heap.size a w) (k i : Int) (t : TypeId) : Below a.heap.size a (((w.alloc (.cells #[.int .i64 0, .int .i64 0] t)).setCell ⟨w.heap.size, 0, none⟩ (.int .i64 k)).setCell ⟨w.heap.size, 1, none⟩ (.int .i64 i)) :=
  kset (kset (kalloc h _) h.size _) h.size _
theorem at_two {l : Nat → Int} {p : Nat} (h : Gate.At l p) (hk : l (p * 2) = 2) : l (p * 2 + 1) = p := by
  rcases h with h | h
  · omega
  · exact h.2
theorem at_one' {l : Nat → Int} {p : Nat} (h : Gate.At l p) (hk : l (p * 2) = 1) : l (p * 2 + 1) = p := by
  rcases h with h | h
  · omega
  · exact h.2
set_option maxHeartbeats 4000000 in
theorem gNote_any (n : Int) (f : Nat → Int) (va : Value) (m : Nat) (l : Nat → Int) (w : World) (hf : Bd12 f) (hm : m ≤ 1000) (hl : Prs w va m l) :
    Calls Try.prog 19 #[.int .i64 n, .agg #[.int .i64 (f 0), .int .i64 (f 1), .int .i64 (f 2), .int .i64 (f 3), .int .i64 (f 4), .int .i64 (f 5), .int .i64 (f 6), .int .i64 (f 7), .int .i64 (f 8), .int .i64 (f 9), .int .i64 (f 10), .int .i64 (f 11)], va] w fun e w' => e = .returned (.tuple #[.agg #[.int .i64 (noted n f m l 0), .int .i64 (noted n f m l 1), .int .i64 (noted n f m l 2), .int .i64 (noted n f m l 3), .int .i64 (noted n f m l 4), .int .i64 (noted n f m l 5), .int .i64 (noted n f m l 6), .int .i64 (noted n f m l 7), .int .i64 (noted n f m l 8), .int .i64 (noted n f m l 9), .int .i64 (noted n f m l 10), .int .i64 (noted n f m l 11)], .int .i64 (Gate.wrong n f m l)]) ∧ Below w.heap.size w w' := by
  obtain ⟨p1, c1, rfl⟩ := hl.form
  have CW := Lib.hid (fun w hl => gcheck_any n f (.slice p1 m c1) m l w hf hm hl)
  have HL := Lib.hid hl
  clear hl
  by_cases h : Gate.wrong n f m l = 0
  · obtain ⟨hok, hfit⟩ := Gate.wrong_of h
    have h38 := hok.1
    have hmn := hfit.2.1
    have HA := Lib.hid hfit.2.2
    have HG : Hid (∀ j, noted n f m l j = Gate.note n f l j) := fun j => noted_yes h j
    generalize noted n f m l = g at *
    rw [h] at CW ⊢
    subst hmn
    clear h hok hfit hf
    go_enter Try.func19, Try.ntmps19
    go_wp2_with fail
    have HI0 := Lib.hid ((Ints.box w (noteK f l 0) 24).alloc (.cells #[.int .i64 ((fun _ => (0 : Int)) 0), .int .i64 ((fun _ => (0 : Int)) 1), .int .i64 ((fun _ => (0 : Int)) 2), .int .i64 ((fun _ => (0 : Int)) 3), .int .i64 ((fun _ => (0 : Int)) 4), .int .i64 ((fun _ => (0 : Int)) 5), .int .i64 ((fun _ => (0 : Int)) 6), .int .i64 ((fun _ => (0 : Int)) 7), .int .i64 ((fun _ => (0 : Int)) 8), .int .i64 ((fun _ => (0 : Int)) 9), .int .i64 ((fun _ => (0 : Int)) 10), .int .i64 ((fun _ => (0 : Int)) 11)] 24))
    have HZ0 := Lib.hid (Ints.zeros (w.alloc (.cells #[.int .i64 (noteK f l 0 0), .int .i64 (noteK f l 0 1), .int .i64 (noteK f l 0 2), .int .i64 (noteK f l 0 3), .int .i64 (noteK f l 0 4), .int .i64 (noteK f l 0 5), .int .i64 (noteK f l 0 6), .int .i64 (noteK f l 0 7), .int .i64 (noteK f l 0 8), .int .i64 (noteK f l 0 9), .int .i64 (noteK f l 0 10), .int .i64 (noteK f l 0 11)] 24)) 24)
    simp only [show noteK f l 0 = f from funext fun j => if_neg (by omega)] at HI0 HZ0
    refine (CW.out _ (HL.out.below bel)).mono ?_
    rintro e w1 ⟨rfl, hb⟩
    have hz := hb.size
    (try simp only [World.size_alloc, World.heap_drewN, World.size_drew, World.size_setCell] at hz)
    have HB1 := Lib.hid (show Below w.heap.size w w1 from bel)
    have HI1 := Lib.hid (HI0.out.below hb)
    have HZ1 := Lib.hid (HZ0.out.below hb)
    clear hb HI0 HZ0
    go_wp2_with fail
    go_loopw [21] (fun k wr => ∃ K : Nat, K ≤ m ∧ k = .int .i64 K ∧ Ints wr w.heap.size 12 (noteK f l K) ∧ Ints wr (w.heap.size + 1) 12 (fun _ => 0) ∧ Below w.heap.size w wr) (fun k _ => m - (intOf k).toNat)
    case atStart =>
      have := HB1.out
      refine ⟨0, by omega, rfl, ?_, ?_, bel⟩
      · rw [show noteK f l 0 = f from funext fun j => if_neg (by omega)]; exact HI1.out
      · simpa using HZ1.out
    case round =>
      clear HI1 HZ1 HB1
      obtain ⟨K, hK, rfl, hI, hZ, hb⟩ := hrel
      have HB := Lib.hid hb
      have HI := Lib.hid hI
      have HZ := Lib.hid hZ
      by_cases hlt : K < m
      · have h1 : (K : Int) < m := by omega
        have h8 : (K : Int) < 8 := by omega
        have h0 : (0 : Int) ≤ K := by omega
        obtain ⟨b1, o1, rfl, hl1, hc1⟩ := HL.out.some (by omega)
        obtain ⟨c0, c1⟩ := two_cells hc1 hb hlt
        have CI := Lib.hid (fun w => gInfo_any (K : Int) w)
        have HAT := Lib.hid (HA.out K hlt)
        clear hb hI hZ hc1
        by_cases hk : l (K * 2) = 2
        · have HN := Lib.hid (fun j => noteK_yes (f := f) hk j)
          have hi := at_two HAT.out hk
          rw [hk] at c0
          rw [hi] at c1
          clear hk hi HAT
          go_upto_region 7 with fail
          generalize hw2 : World.alloc _ _ = w2
          have HF2 := Lib.hid (show Ints w2 wr.heap.size 2 (fr2 2 K) from by rw [← hw2]; exact Ints.two wr 2 K 33 _ rfl rfl)
          have HB2 := Lib.hid (show Below w.heap.size w w2 from by rw [← hw2]; exact kalloc HB.out _)
          have HM2 := Lib.hid (show Below wr.heap.size wr w2 from by rw [← hw2]; exact kalloc (Below.refl _ _) _)
          clear hw2 c0 c1
          refine region_below (by kernel_rfl) (by kernel_rfl) ?_; intro wR HW; have HBR := Lib.hid (show Below w.heap.size w wR from by have := HB2.out; rw [← HW.out]; exact bel); have HRW := Lib.hid (show Below w2.heap.size w2 wR from by rw [← HW.out]; exact Below.refl _ _); have HIR := Lib.hid (show Ints wR (wr.heap.size) 2 (fr2 (2) (K)) from by rw [← HW.out]; exact HF2.out); have c0 := cell_regrown (show wR.cell? ⟨wr.heap.size, 0, none⟩ = some (Value.int .i64 (2)) from (HIR.out.2 0 (by decide)).1); have c1 := cell_regrown (show wR.cell? ⟨wr.heap.size, 1, none⟩ = some (Value.int .i64 (K)) from (HIR.out.2 1 (by decide)).1); have hzr := HIR.out.1; (repeat (first | go_big_quiet_step (with_reducible exact Calls.regrown_of (CI.out _)) | quiet_step (with_reducible exact Calls.regrown_of (CI.out _)))); refine wpQuiet_nil ?_; intro w3 hb2; have HBw3 := Lib.hid (show Below w.heap.size w w3 from by have := HBR.out; exact bthru hb2 this); have HFw3 := Lib.hid (HIR.out.below hb2); have HNw3 := Lib.hid (bthru hb2 HRW.out); clear hb2 HIR HBR c0 c1 hzr HW HRW
          have HM3 := Lib.hid (bthru HNw3.out HM2.out)
          have HI3 := Lib.hid (HI.out.below HM3.out)
          have HZ3 := Lib.hid (HZ.out.below HM3.out)
          obtain ⟨k0, f0⟩ := HI3.out.2 K (by omega)
          have hz := HI3.out.1
          clear HI HZ HB HB2 HM2 HF2
          go_wp2
          go_roundw
          case rel =>
            have := HBw3.out
            exact ⟨K + 1, by omega, by go_num, HI3.out.set K 0 (by omega) _ HN.out, HZ3.out.other _ _ _ (by omega), bel⟩
          case measure => simp [intOf]; omega
        · have HN := Lib.hid (noteK_no (f := f) hk)
          have e0 : (l (K * 2) == 2) = false := by simp [hk]
          clear hk HAT
          generalize l (K * 2) = k at *
          generalize l (K * 2 + 1) = i at *
          go_upto_region 7 with fail
          generalize hw2 : World.alloc _ _ = w2
          have HF2 := Lib.hid (show Ints w2 wr.heap.size 2 (fr2 k i) from by rw [← hw2]; exact Ints.two wr k i 33 _ rfl rfl)
          have HB2 := Lib.hid (show Below w.heap.size w w2 from by rw [← hw2]; exact kalloc HB.out _)
          have HM2 := Lib.hid (show Below wr.heap.size wr w2 from by rw [← hw2]; exact kalloc (Below.refl _ _) _)
          clear hw2 c0 c1
          refine region_below (by kernel_rfl) (by kernel_rfl) ?_; intro wR HW; have HBR := Lib.hid (show Below w.heap.size w wR from by have := HB2.out; rw [← HW.out]; exact bel); have HRW := Lib.hid (show Below w2.heap.size w2 wR from by rw [← HW.out]; exact Below.refl _ _); have HIR := Lib.hid (show Ints wR (wr.heap.size) 2 (fr2 (k) (i)) from by rw [← HW.out]; exact HF2.out); have c0 := cell_regrown (show wR.cell? ⟨wr.heap.size, 0, none⟩ = some (Value.int .i64 (k)) from (HIR.out.2 0 (by decide)).1); have c1 := cell_regrown (show wR.cell? ⟨wr.heap.size, 1, none⟩ = some (Value.int .i64 (i)) from (HIR.out.2 1 (by decide)).1); have hzr := HIR.out.1; (repeat (first | go_big_quiet_step (with_reducible exact Calls.regrown_of (CI.out _)) | quiet_step (with_reducible exact Calls.regrown_of (CI.out _)))); refine wpQuiet_nil ?_; intro w3 hb2; have HBw3 := Lib.hid (show Below w.heap.size w w3 from by have := HBR.out; exact bthru hb2 this); have HFw3 := Lib.hid (HIR.out.below hb2); have HNw3 := Lib.hid (bthru hb2 HRW.out); clear hb2 HIR HBR c0 c1 hzr HW HRW
          have HM3 := Lib.hid (bthru HNw3.out HM2.out)
          have HI3 := Lib.hid (HI.out.below HM3.out)
          have HZ3 := Lib.hid (HZ.out.below HM3.out)
          clear HI HZ HB HB2 HM2 HF2
          go_wp2
          go_roundw
          case rel =>
            exact ⟨K + 1, by omega, by go_num, by rw [HN.out]; exact HI3.out, HZ3.out, HBw3.out⟩
          case measure => simp [intOf]; omega
      · obtain rfl : K = m := by omega
        have HI := Lib.hid (hI.like (fun j hj => (noteK_end K f l j).trans (HG.out j).symm))
        clear hb hI hZ
        have HI_c0 := (HI.out.2 0 (by decide)).1; have HI_c1 := (HI.out.2 1 (by decide)).1; have HI_c2 := (HI.out.2 2 (by decide)).1; have HI_c3 := (HI.out.2 3 (by decide)).1; have HI_c4 := (HI.out.2 4 (by decide)).1; have HI_c5 := (HI.out.2 5 (by decide)).1; have HI_c6 := (HI.out.2 6 (by decide)).1; have HI_c7 := (HI.out.2 7 (by decide)).1; have HI_c8 := (HI.out.2 8 (by decide)).1; have HI_c9 := (HI.out.2 9 (by decide)).1; have HI_c10 := (HI.out.2 10 (by decide)).1; have HI_c11 := (HI.out.2 11 (by decide)).1; have HI_z := HI.out.1
        have HZ_r := HZ.out.row12; have HZ_c0 := (HZ.out.2 0 (by decide)).1; have HZ_f0 := (HZ.out.2 0 (by decide)).2; have HZ_c1 := (HZ.out.2 1 (by decide)).1; have HZ_f1 := (HZ.out.2 1 (by decide)).2; have HZ_c2 := (HZ.out.2 2 (by decide)).1; have HZ_f2 := (HZ.out.2 2 (by decide)).2; have HZ_c3 := (HZ.out.2 3 (by decide)).1; have HZ_f3 := (HZ.out.2 3 (by decide)).2; have HZ_c4 := (HZ.out.2 4 (by decide)).1; have HZ_f4 := (HZ.out.2 4 (by decide)).2; have HZ_c5 := (HZ.out.2 5 (by decide)).1; have HZ_f5 := (HZ.out.2 5 (by decide)).2; have HZ_c6 := (HZ.out.2 6 (by decide)).1; have HZ_f6 := (HZ.out.2 6 (by decide)).2; have HZ_c7 := (HZ.out.2 7 (by decide)).1; have HZ_f7 := (HZ.out.2 7 (by decide)).2; have HZ_c8 := (HZ.out.2 8 (by decide)).1; have HZ_f8 := (HZ.out.2 8 (by decide)).2; have HZ_c9 := (HZ.out.2 9 (by decide)).1; have HZ_f9 := (HZ.out.2 9 (by decide)).2; have HZ_c10 := (HZ.out.2 10 (by decide)).1; have HZ_f10 := (HZ.out.2 10 (by decide)).2; have HZ_c11 := (HZ.out.2 11 (by decide)).1; have HZ_f11 := (HZ.out.2 11 (by decide)).2; have HZ_z := HZ.out.1
        have := HB.out
        go_wp2
        refine bodyPost_ret (ret_cell_tmp Try.results19 (w.heap.size + 1) [.int .i64 ((g) 0), .int .i64 ((g) 1), .int .i64 ((g) 2), .int .i64 ((g) 3), .int .i64 ((g) 4), .int .i64 ((g) 5), .int .i64 ((g) 6), .int .i64 ((g) 7), .int .i64 ((g) 8), .int .i64 ((g) 9), .int .i64 ((g) 10), .int .i64 ((g) 11)] _ rfl rng Try.underlying24 rfl (by kernel_rfl)) rfl ⟨rfl, ?_⟩; exact bel
  · have HX := Lib.hid (fun j => noted_no h j)
    simp only [noted_no h]
    generalize Gate.wrong n f m l = er at *
    have e0 : (er != 0) = true := by simp [h]
    clear h
    go_enter Try.func19, Try.ntmps19
    go_wp2_with fail
    have HZ0 := Lib.hid (Ints.zeros (w.alloc (.cells #[.int .i64 (f 0), .int .i64 (f 1), .int .i64 (f 2), .int .i64 (f 3), .int .i64 (f 4), .int .i64 (f 5), .int .i64 (f 6), .int .i64 (f 7), .int .i64 (f 8), .int .i64 (f 9), .int .i64 (f 10), .int .i64 (f 11)] 24)) 24)
    refine (CW.out _ (HL.out.below bel)).mono ?_
    rintro e w1 ⟨rfl, hb⟩
    have hz := hb.size
    (try simp only [World.size_alloc, World.heap_drewN, World.size_drew, World.size_setCell] at hz)
    have HB1 := Lib.hid (show Below w.heap.size w w1 from bel)
    have HZ1 := Lib.hid (HZ0.out.below hb)
    rw [World.size_alloc] at HZ1
    clear hb HZ0
    have HZ1_r := HZ1.out.row12; have HZ1_c0 := (HZ1.out.2 0 (by decide)).1; have HZ1_f0 := (HZ1.out.2 0 (by decide)).2; have HZ1_c1 := (HZ1.out.2 1 (by decide)).1; have HZ1_f1 := (HZ1.out.2 1 (by decide)).2; have HZ1_c2 := (HZ1.out.2 2 (by decide)).1; have HZ1_f2 := (HZ1.out.2 2 (by decide)).2; have HZ1_c3 := (HZ1.out.2 3 (by decide)).1; have HZ1_f3 := (HZ1.out.2 3 (by decide)).2; have HZ1_c4 := (HZ1.out.2 4 (by decide)).1; have HZ1_f4 := (HZ1.out.2 4 (by decide)).2; have HZ1_c5 := (HZ1.out.2 5 (by decide)).1; have HZ1_f5 := (HZ1.out.2 5 (by decide)).2; have HZ1_c6 := (HZ1.out.2 6 (by decide)).1; have HZ1_f6 := (HZ1.out.2 6 (by decide)).2; have HZ1_c7 := (HZ1.out.2 7 (by decide)).1; have HZ1_f7 := (HZ1.out.2 7 (by decide)).2; have HZ1_c8 := (HZ1.out.2 8 (by decide)).1; have HZ1_f8 := (HZ1.out.2 8 (by decide)).2; have HZ1_c9 := (HZ1.out.2 9 (by decide)).1; have HZ1_f9 := (HZ1.out.2 9 (by decide)).2; have HZ1_c10 := (HZ1.out.2 10 (by decide)).1; have HZ1_f10 := (HZ1.out.2 10 (by decide)).2; have HZ1_c11 := (HZ1.out.2 11 (by decide)).1; have HZ1_f11 := (HZ1.out.2 11 (by decide)).2; have HZ1_z := HZ1.out.1
    have := HB1.out
    go_wp2
    refine bodyPost_ret (ret_cell_tmp Try.results19 (w.heap.size + 1) [.int .i64 ((fun _ => 0) 0), .int .i64 ((fun _ => 0) 1), .int .i64 ((fun _ => 0) 2), .int .i64 ((fun _ => 0) 3), .int .i64 ((fun _ => 0) 4), .int .i64 ((fun _ => 0) 5), .int .i64 ((fun _ => 0) 6), .int .i64 ((fun _ => 0) 7), .int .i64 ((fun _ => 0) 8), .int .i64 ((fun _ => 0) 9), .int .i64 ((fun _ => 0) 10), .int .i64 ((fun _ => 0) 11)] _ rfl rng Try.underlying24 rfl (by kernel_rfl)) rfl ⟨rfl, ?_⟩; exact bel
end Go.Proofs.Ytkdmmomfolhfbaa
namespace Go.Proofs.Ytkdmmomfolhfbaa
set_option linter.unusedVariables false
set_option linter.unusedSimpArgs false
open Go.ChangeShapes Go.WideShapes Go.RowKit

/-! The program's Relay: of a slot that is held. -/
theorem ret_cell2 {P : Program} {fn : Func} {p q : Tmp} {ty ty2 : TypeId} (h : fn.results = #[.cell p ty, .cell q ty2]) {tmps : Array Value} {w : World} (b : Nat) (cs : List Value) (d : TypeDesc) (b2 : Nat) (cs2 : List Value) (d2 : TypeDesc)
    (hp : tmps.getD p undef = .pointer (some ⟨b, 0, none⟩)) (hq : tmps.getD q undef = .pointer (some ⟨b2, 0, none⟩)) (hc : w.rangeAt b 0 cs) (hu : P.underlying ty = some d) (hd : d.isRow = true) (hi : (P.info? ty).map (·.size) = some cs.length)
    (hc2 : w.rangeAt b2 0 cs2) (hu2 : P.underlying ty2 = some d2) (hd2 : d2.isRow = true) (hi2 : (P.info? ty2).map (·.size) = some cs2.length) :
    (results fn tmps).run P w = .ok (.tuple #[.agg cs.toArray, .agg cs2.toArray]) w := by
  have hp' : tmps[p]?.getD undef = .pointer (some ⟨b, 0, none⟩) := by simpa using hp
  have hq' : tmps[q]?.getD undef = .pointer (some ⟨b2, 0, none⟩) := by simpa using hq
  simp only [results, h]
  simp [Sem.run_bind, hp', hq', asAddr, run_loadVar_mid w b 0 ty cs d hc hu hd hi, run_loadVar_mid w b2 0 ty2 cs2 d2 hc2 hu2 hd2 hi2]
/-- The list of a hub's integers, of a frame's. -/
def hubL (f : Nat → Int) : List Value := [.int .i64 (f 0), .int .i64 (f 1), .int .i64 (f 2), .int .i64 (f 3), .int .i64 (f 4), .int .i64 (f 5), .int .i64 (f 6), .int .i64 (f 7), .int .i64 (f 8), .int .i64 (f 9), .int .i64 (f 10), .int .i64 (f 11)]
def frL (k i : Int) : List Value := [.int .i64 k, .int .i64 i]
theorem Ints.cells12 {w : World} {b : Nat} {g : Nat → Int} (h : Ints w b 12 g) (f : Nat → Int) : Ints (w.setCells b 0 (hubL f)) b 12 f := h.set12 f
theorem Ints.cells2 {w : World} {b : Nat} {g : Nat → Int} (h : Ints w b 2 g) (k i : Int) : Ints (w.setCells b 0 (frL k i)) b 2 (fr2 k i) := by
  refine ((h.set 0 k (by decide) (fun j => if j = 0 then k else g j) (fun j => rfl)).set 1 i (by decide) (fun j => if j = 1 then i else if j = 0 then k else g j) (fun j => rfl)).like (fun j hj => ?_)
  have h2 : j = 0 ∨ j = 1 := by omega
  rcases h2 with rfl | rfl <;> rfl
theorem Ints.apart {b' n : Nat} {f : Nat → Int} (b : Nat) (hb : b ≠ b') : ∀ (vs : List Value) (o : Nat) (w : World), Ints w b' n f → Ints (w.setCells b o vs) b' n f
  | [], _, _, h => h
  | v :: r, o, w, h => Ints.apart b hb r (o + 1) _ (h.other b o v hb)
theorem frL_row {w : World} {b : Nat} {k i : Int} (h : Ints w b 2 (fr2 k i)) : w.rangeAt b 0 (frL k i) := h.row2
theorem hubL_row {w : World} {b : Nat} {f : Nat → Int} (h : Ints w b 12 f) : w.rangeAt b 0 (hubL f) := h.row12
theorem hubL_one (f : Nat → Int) : (hubL f).toArray.all (·.oneCell') = true := by kernel_rfl
theorem frL_one (k i : Int) : (frL k i).toArray.all (·.oneCell') = true := by kernel_rfl
theorem Ints.drew {w : World} {b n : Nat} {f : Nat → Int} (h : Ints w b n f) : Ints w.drew b n f := h
/-- A hub and a frame, loaded and stored into two other places. -/
structure Four (b c d e : Nat) (f : Nat → Int) (k i : Int) (w : World) : Prop where
  hub : Ints w b 12 f
  fr : Ints w c 2 (fr2 k i)
  hub2 : ∃ g, Ints w d 12 g
  fr2 : ∃ g, Ints w e 2 g
theorem Four.drew {b c d e : Nat} {f : Nat → Int} {k i : Int} {w : World} (h : Four b c d e f k i w) : Four b c d e f k i w.drew := ⟨h.1, h.2, h.3, h.4⟩
theorem Four.one {b c d e : Nat} {f : Nat → Int} {k i : Int} {w : World} (h : Four b c d e f k i w) (h1 : d ≠ b) (h2 : d ≠ c) (h3 : d ≠ e) (g : Nat → Int) : Four b c d e f k i (w.setCells d 0 (hubL g)) := by
  obtain ⟨g1, hg1⟩ := h.3
  obtain ⟨g2, hg2⟩ := h.4
  exact ⟨Ints.apart d h1 _ _ _ h.1, Ints.apart d h2 _ _ _ h.2, ⟨_, hg1.cells12 g⟩, ⟨_, Ints.apart d h3 _ _ _ hg2⟩⟩
theorem Four.two {b c d e : Nat} {f : Nat → Int} {k i : Int} {w : World} (h : Four b c d e f k i w) (h1 : e ≠ b) (h2 : e ≠ c) (h3 : e ≠ d) (x y : Int) : Four b c d e f k i (w.setCells e 0 (frL x y)) := by
  obtain ⟨g1, hg1⟩ := h.3
  obtain ⟨g2, hg2⟩ := h.4
  exact ⟨Ints.apart e h1 _ _ _ h.1, Ints.apart e h2 _ _ _ h.2, ⟨_, Ints.apart e h3 _ _ _ hg1⟩, ⟨_, hg2.cells2 x y⟩⟩
set_option maxHeartbeats 4000000 in
theorem relayInfo_any (m : Nat) (f : Nat → Int) (va : Value) (l : Nat → Int) (w : World) (hm : m ≤ 1000) (hl : Prs w va m l) (h : Gate.wrong m f m l = 0) (h0 : 0 < f 10) :
    Calls Try.prog 39 #[.int .i64 m, .agg #[.int .i64 (f 0), .int .i64 (f 1), .int .i64 (f 2), .int .i64 (f 3), .int .i64 (f 4), .int .i64 (f 5), .int .i64 (f 6), .int .i64 (f 7), .int .i64 (f 8), .int .i64 (f 9), .int .i64 (f 10), .int .i64 (f 11)], va] w fun e w' => e = .returned (.tuple #[.agg #[.int .i64 (Gate.relay m f l m 0), .int .i64 (Gate.relay m f l m 1), .int .i64 (Gate.relay m f l m 2), .int .i64 (Gate.relay m f l m 3), .int .i64 (Gate.relay m f l m 4), .int .i64 (Gate.relay m f l m 5), .int .i64 (Gate.relay m f l m 6), .int .i64 (Gate.relay m f l m 7), .int .i64 (Gate.relay m f l m 8), .int .i64 (Gate.relay m f l m 9), .int .i64 (Gate.relay m f l m 10), .int .i64 (Gate.relay m f l m 11)], .agg #[.int .i64 (Gate.relayed m f l m 0), .int .i64 (Gate.relayed m f l m 1)]]) ∧ Below w.heap.size w w' := by
  obtain ⟨hok, hfit⟩ := Gate.wrong_of h
  have h38 := hok.1
  have h11 := hok.2.2.2.2.2
  have CB := Lib.hid (fun w => block_val m _ (Conf.tm_yes (Conf.right_spec.2 h38)) w)
  have hport : Gate.port f l m = (f 11).toNat := by unfold Gate.port; rw [if_pos h0]
  have hPm : (f 11).toNat < m := by omega
  have HAT := Lib.hid (hfit.2.2 _ hPm)
  have HW : Hid (Gate.way m f l m = if l ((f 11).toNat * 2) = 2 then 1 else 0) := by
    show Gate.way m f l m = _
    unfold Gate.way
    rw [if_pos h0]
  have HL := Lib.hid hl
  obtain ⟨p1, c1, rfl⟩ := hl.form
  have hI : f 11 < m := by omega
  have hI0 : 0 ≤ f 11 := h11.1
  obtain ⟨b1, o1, rfl, hl1, hc1⟩ := HL.out.some (by omega)
  have HC := Lib.hid hc1
  have hf11 : f 11 = ((f 11).toNat : Nat) := by omega
  have HP := Lib.hid hf11
  have CI := Lib.hid (fun w => gInfo_any (f 11) w)
  clear hl h hok hfit h0 h11 hc1 hf11
  by_cases hk : l ((f 11).toNat * 2) = 2
  · have hway : Gate.way m f l m = 1 := by rw [HW.out, if_pos hk]
    obtain ⟨hg, hr⟩ := relay_info hway
    rw [hport] at hr
    have hi := at_two HAT.out hk
    have HG := Lib.hid hg
    rw [show Gate.relayed m f l m 0 = 2 from (hr 0).trans hk, show Gate.relayed m f l m 1 = f 11 from (hr 1).trans (hi.trans HP.out.symm)]
    have HK := Lib.hid hk
    have HK1 : Hid (l ((f 11).toNat * 2 + 1) = f 11) := hi.trans HP.out.symm
    generalize Gate.relay m f l m = g at *
    clear hway hg hr hport HW hk hi HAT
    go_enter Try.func39, Try.ntmps39
    go_upto_region 1 with fail
    have HX0 := Lib.hid (((Ints.box w f 24).alloc (.cells #[.int .i64 ((fun _ => (0 : Int)) 0), .int .i64 ((fun _ => (0 : Int)) 1), .int .i64 ((fun _ => (0 : Int)) 2), .int .i64 ((fun _ => (0 : Int)) 3), .int .i64 ((fun _ => (0 : Int)) 4), .int .i64 ((fun _ => (0 : Int)) 5), .int .i64 ((fun _ => (0 : Int)) 6), .int .i64 ((fun _ => (0 : Int)) 7), .int .i64 ((fun _ => (0 : Int)) 8), .int .i64 ((fun _ => (0 : Int)) 9), .int .i64 ((fun _ => (0 : Int)) 10), .int .i64 ((fun _ => (0 : Int)) 11)] 24)).alloc (.cells #[.int .i64 0, .int .i64 0] 33))
    have HZ0 := Lib.hid ((Ints.zeros (w.alloc (.cells #[.int .i64 (f 0), .int .i64 (f 1), .int .i64 (f 2), .int .i64 (f 3), .int .i64 (f 4), .int .i64 (f 5), .int .i64 (f 6), .int .i64 (f 7), .int .i64 (f 8), .int .i64 (f 9), .int .i64 (f 10), .int .i64 (f 11)] 24)) 24).alloc (.cells #[.int .i64 0, .int .i64 0] 33))
    have HF0 := Lib.hid (Ints.two ((w.alloc (.cells #[.int .i64 (f 0), .int .i64 (f 1), .int .i64 (f 2), .int .i64 (f 3), .int .i64 (f 4), .int .i64 (f 5), .int .i64 (f 6), .int .i64 (f 7), .int .i64 (f 8), .int .i64 (f 9), .int .i64 (f 10), .int .i64 (f 11)] 24)).alloc (.cells #[.int .i64 ((fun _ => (0 : Int)) 0), .int .i64 ((fun _ => (0 : Int)) 1), .int .i64 ((fun _ => (0 : Int)) 2), .int .i64 ((fun _ => (0 : Int)) 3), .int .i64 ((fun _ => (0 : Int)) 4), .int .i64 ((fun _ => (0 : Int)) 5), .int .i64 ((fun _ => (0 : Int)) 6), .int .i64 ((fun _ => (0 : Int)) 7), .int .i64 ((fun _ => (0 : Int)) 8), .int .i64 ((fun _ => (0 : Int)) 9), .int .i64 ((fun _ => (0 : Int)) 10), .int .i64 ((fun _ => (0 : Int)) 11)] 24)) 0 0 33 (fun _ => 0) rfl rfl)
    simp only [World.size_alloc] at HX0 HZ0 HF0
    have HB0 := Lib.hid (show Below w.heap.size w (((w.alloc (.cells #[.int .i64 (f 0), .int .i64 (f 1), .int .i64 (f 2), .int .i64 (f 3), .int .i64 (f 4), .int .i64 (f 5), .int .i64 (f 6), .int .i64 (f 7), .int .i64 (f 8), .int .i64 (f 9), .int .i64 (f 10), .int .i64 (f 11)] 24)).alloc (.cells #[.int .i64 ((fun _ => (0 : Int)) 0), .int .i64 ((fun _ => (0 : Int)) 1), .int .i64 ((fun _ => (0 : Int)) 2), .int .i64 ((fun _ => (0 : Int)) 3), .int .i64 ((fun _ => (0 : Int)) 4), .int .i64 ((fun _ => (0 : Int)) 5), .int .i64 ((fun _ => (0 : Int)) 6), .int .i64 ((fun _ => (0 : Int)) 7), .int .i64 ((fun _ => (0 : Int)) 8), .int .i64 ((fun _ => (0 : Int)) 9), .int .i64 ((fun _ => (0 : Int)) 10), .int .i64 ((fun _ => (0 : Int)) 11)] 24)).alloc (.cells #[.int .i64 0, .int .i64 0] 33)) from bel)
    have hsz : (((w.alloc (.cells #[.int .i64 (f 0), .int .i64 (f 1), .int .i64 (f 2), .int .i64 (f 3), .int .i64 (f 4), .int .i64 (f 5), .int .i64 (f 6), .int .i64 (f 7), .int .i64 (f 8), .int .i64 (f 9), .int .i64 (f 10), .int .i64 (f 11)] 24)).alloc (.cells #[.int .i64 ((fun _ => (0 : Int)) 0), .int .i64 ((fun _ => (0 : Int)) 1), .int .i64 ((fun _ => (0 : Int)) 2), .int .i64 ((fun _ => (0 : Int)) 3), .int .i64 ((fun _ => (0 : Int)) 4), .int .i64 ((fun _ => (0 : Int)) 5), .int .i64 ((fun _ => (0 : Int)) 6), .int .i64 ((fun _ => (0 : Int)) 7), .int .i64 ((fun _ => (0 : Int)) 8), .int .i64 ((fun _ => (0 : Int)) 9), .int .i64 ((fun _ => (0 : Int)) 10), .int .i64 ((fun _ => (0 : Int)) 11)] 24)).alloc (.cells #[.int .i64 0, .int .i64 0] 33)).heap.size = w.heap.size + 3 := by simp
    generalize World.alloc _ _ = w1 at *
    have c11 := (HX0.out.2 11 (by decide)).1
    obtain ⟨k0, k1⟩ := two_cells HC.out HB0.out hPm
    rw [HK.out] at k0
    rw [HK1.out] at k1
    have zx := HX0.out.1
    go_upto_region 2 with fail
    generalize hw2 : World.alloc _ _ = w2
    have HF2 := Lib.hid (show Ints w2 (w.heap.size + 3) 2 (fr2 2 (f 11)) from by rw [← hw2, ← hsz]; exact Ints.two w1 2 (f 11) 33 _ rfl rfl)
    have HX2 := Lib.hid (show Ints w2 w.heap.size 12 f from by rw [← hw2]; exact HX0.out.alloc _)
    have HZ2 := Lib.hid (show Ints w2 (w.heap.size + 1) 12 (fun _ => 0) from by rw [← hw2]; exact HZ0.out.alloc _)
    have HT2 := Lib.hid (show Ints w2 (w.heap.size + 1 + 1) 2 (fun _ => 0) from by rw [← hw2]; exact HF0.out.alloc _)
    have HB2 := Lib.hid (show Below w.heap.size w w2 from by rw [← hw2]; exact kalloc HB0.out _)
    clear hw2 hsz c11 k0 k1 zx HX0 HZ0 HF0 HB0
    refine region_below (by kernel_rfl) (by kernel_rfl) ?_; intro wR HW
    have HBR := Lib.hid (show Below w.heap.size w wR from by rw [← HW.out]; exact HB2.out)
    have HFR := Lib.hid (show Ints wR (w.heap.size + 3) 2 (fr2 2 (f 11)) from by rw [← HW.out]; exact HF2.out)
    have HXR := Lib.hid (show Ints wR w.heap.size 12 f from by rw [← HW.out]; exact HX2.out)
    have HZR := Lib.hid (show Ints wR (w.heap.size + 1) 12 (fun _ => 0) from by rw [← HW.out]; exact HZ2.out)
    have HTR := Lib.hid (show Ints wR (w.heap.size + 1 + 1) 2 (fun _ => 0) from by rw [← HW.out]; exact HT2.out)
    clear HW HB2 HF2 HX2 HZ2 HT2
    have c0 := cell_regrown (show wR.cell? ⟨w.heap.size + 3, 0, none⟩ = some (.int .i64 2) from (HFR.out.2 0 (by decide)).1)
    have c1 := cell_regrown (show wR.cell? ⟨w.heap.size + 3, 1, none⟩ = some (.int .i64 (f 11)) from (HFR.out.2 1 (by decide)).1)
    have c11 := cell_regrown (HXR.out.2 11 (by decide)).1
    have zr := HFR.out.1
    (repeat (first | go_big_quiet_step (with_reducible exact Calls.regrown_of (CI.out _)) | quiet_step (with_reducible exact Calls.regrown_of (CI.out _)))); refine wpQuiet_nil ?_; intro w2 hb2
    have HB2 := Lib.hid (show Below w.heap.size w w2 from by have := HBR.out; exact bthru hb2 this)
    have HF2 := Lib.hid (HFR.out.below hb2)
    have HX2 := Lib.hid (HXR.out.below hb2)
    have HZ2 := Lib.hid (HZR.out.below hb2)
    have HT2 := Lib.hid (HTR.out.below hb2)
    clear hb2 HBR HFR HXR HZR HTR c0 c1 c11 zr
    go_wp2_with fail
    refine (CB.out _).mono ?_; rintro e w3 ⟨rfl, hb⟩; have hz := hb.size; (try simp only [World.size_alloc, World.heap_drewN, World.size_drew, World.size_setCell] at hz)
    have HB3 := Lib.hid (show Below w.heap.size w w3 from by have := HB2.out; exact bel)
    have HF3 := Lib.hid (HF2.out.below hb)
    have HX3 := Lib.hid (HX2.out.below hb)
    have HZ3 := Lib.hid (HZ2.out.below hb)
    have HT3 := Lib.hid (HT2.out.below hb)
    clear hb HB2 HF2 HX2 HZ2 HT2
    obtain ⟨c10, f10⟩ := HX3.out.2 10 (by decide)
    have zx := HX3.out.1
    go_upto_region 5 with fail
    generalize hw4 : World.setCell _ _ _ = w4
    have HX4 := Lib.hid (show Ints w4 w.heap.size 12 g from by rw [← hw4]; exact HX3.out.set 10 (2 * m) (by omega) _ HG.out)
    have HZ4 := Lib.hid (show Ints w4 (w.heap.size + 1) 12 (fun _ => 0) from by rw [← hw4]; exact HZ3.out.other _ _ _ (by omega))
    have HT4 := Lib.hid (show Ints w4 (w.heap.size + 1 + 1) 2 (fun _ => 0) from by rw [← hw4]; exact HT3.out.other _ _ _ (by omega))
    have HF4 := Lib.hid (show Ints w4 (w.heap.size + 3) 2 (fr2 2 (f 11)) from by rw [← hw4]; exact HF3.out.other _ _ _ (by omega))
    have HB4 := Lib.hid (show Below w.heap.size w w4 from by have := HB3.out; rw [← hw4]; exact bel)
    clear hw4 HX3 HZ3 HT3 HF3 HB3 c10 f10 zx
    have H4 : Four w.heap.size (w.heap.size + 3) (w.heap.size + 1) (w.heap.size + 1 + 1) g 2 (f 11) w4 := ⟨HX4.out, HF4.out, ⟨_, HZ4.out⟩, ⟨_, HT4.out⟩⟩
    clear HX4 HF4 HZ4 HT4
    refine wp_region_held_drew (S := Four (w.heap.size) (w.heap.size + 3) (w.heap.size + 1) (w.heap.size + 1 + 1) (g) (2) (f 11)) (by kernel_rfl) (Four.drew H4) (fun hS => ?_); refine anyH_load (i := 0) rfl (by kernel_rfl) (by kernel_rfl) (by kernel_rfl) _ _ (w.heap.size) 0 (hubL (g)) _ (fun _ _ _ h => h) (by rfl) rfl rfl (fun w h => hubL_row h.hub) Try.underlying24 rfl (by kernel_rfl) hS ?_; simp only [Act.put, List.getElem_toArray, List.getElem_cons_zero, List.getElem_cons_succ, List.setIfInBounds_toArray, List.set_cons_zero, List.set_cons_succ]; refine anyH_load (i := 1) rfl (by kernel_rfl) (by kernel_rfl) (by kernel_rfl) _ _ (w.heap.size + 3) 0 (frL (2) (f 11)) _ (fun _ _ _ h => h) (by rfl) rfl rfl (fun w h => frL_row h.fr) Try.underlying33 rfl (by kernel_rfl) hS ?_; simp only [Act.put, List.getElem_toArray, List.getElem_cons_zero, List.getElem_cons_succ, List.setIfInBounds_toArray, List.set_cons_zero, List.set_cons_succ]; refine anyH_store (k := 2) rfl (by kernel_rfl) _ _ _ (w.heap.size + 1) 0 (hubL (g)).toArray (by rfl) rfl rfl rfl (Exists.choose_spec hS.hub2).there (by kernel_rfl) (hubL_one (g)) (hS.one (by omega) (by omega) (by omega) _) ?_; simp only [Act.put, List.getElem_toArray, List.getElem_cons_zero, List.getElem_cons_succ, List.setIfInBounds_toArray, List.set_cons_zero, List.set_cons_succ]; have hSa := hS.one (g := g) (by omega) (by omega) (by omega); have hXa := (Exists.choose_spec hS.hub2).cells12 (g); have hBa := Lib.hid (below_cells (B := w.heap.size) (b := w.heap.size + 1) (a := w) (by omega) (hubL (g)) 0 _ (kept_drew1 HB4.out)); generalize hwa : World.setCells _ _ _ _ = wa at *; clear hwa; refine anyH_store (k := 3) rfl (by kernel_rfl) _ _ _ (w.heap.size + 1 + 1) 0 (frL (2) (f 11)).toArray (by rfl) rfl rfl rfl (Exists.choose_spec hSa.fr2).there (by kernel_rfl) (frL_one (2) (f 11)) (hSa.two (by omega) (by omega) (by omega) _ _) ?_; simp only [Act.put, List.getElem_toArray, List.getElem_cons_zero, List.getElem_cons_succ, List.setIfInBounds_toArray, List.set_cons_zero, List.set_cons_succ]; have hFb := (Exists.choose_spec hSa.fr2).cells2 (2) (f 11); have hXb := Ints.apart (w.heap.size + 1 + 1) (by omega) (frL (2) (f 11)) 0 _ hXa; have hBb := Lib.hid (below_cells (B := w.heap.size) (b := w.heap.size + 1 + 1) (a := w) (by omega) (frL (2) (f 11)) 0 _ hBa.out); have hSb := hSa.two (x := 2) (y := f 11) (by omega) (by omega) (by omega); generalize hwb : World.setCells _ _ _ _ = wb at *; clear hwb hSa hXa hBa; refine wpAnyH_done (by kernel_rfl) ?_ _
    go_wp2
    refine bodyPost_ret (ret_cell2 Try.results39 (w.heap.size + 1) (hubL (g)) _ (w.heap.size + 1 + 1) (frL (2) (f 11)) _ rfl rfl (hubL_row hXb) Try.underlying24 rfl (by kernel_rfl) (frL_row hFb) Try.underlying33 rfl (by kernel_rfl)) rfl ⟨rfl, hBb.out⟩
  · have hway : Gate.way m f l m = 0 := by rw [HW.out, if_neg hk]
    obtain ⟨hg, hr⟩ := relay_none hway
    rw [hg, hr]
    have hk2 : (l ((f 11).toNat * 2) == 2) = false := by simp [hk]
    clear hway hg hr hport HW hk HAT
    have HK' : ∃ k, l ((f 11).toNat * 2) = k := ⟨_, rfl⟩
    obtain ⟨k, hk0⟩ := HK'
    have HK1' : ∃ i, l ((f 11).toNat * 2 + 1) = i := ⟨_, rfl⟩
    obtain ⟨i, hk1⟩ := HK1'
    rw [hk0] at hk2
    have HK := Lib.hid hk0
    have HK1 := Lib.hid hk1
    clear hk0 hk1
    go_enter Try.func39, Try.ntmps39
    go_upto_region 1 with fail
    have HX0 := Lib.hid (((Ints.box w f 24).alloc (.cells #[.int .i64 ((fun _ => (0 : Int)) 0), .int .i64 ((fun _ => (0 : Int)) 1), .int .i64 ((fun _ => (0 : Int)) 2), .int .i64 ((fun _ => (0 : Int)) 3), .int .i64 ((fun _ => (0 : Int)) 4), .int .i64 ((fun _ => (0 : Int)) 5), .int .i64 ((fun _ => (0 : Int)) 6), .int .i64 ((fun _ => (0 : Int)) 7), .int .i64 ((fun _ => (0 : Int)) 8), .int .i64 ((fun _ => (0 : Int)) 9), .int .i64 ((fun _ => (0 : Int)) 10), .int .i64 ((fun _ => (0 : Int)) 11)] 24)).alloc (.cells #[.int .i64 0, .int .i64 0] 33))
    have HZ0 := Lib.hid ((Ints.zeros (w.alloc (.cells #[.int .i64 (f 0), .int .i64 (f 1), .int .i64 (f 2), .int .i64 (f 3), .int .i64 (f 4), .int .i64 (f 5), .int .i64 (f 6), .int .i64 (f 7), .int .i64 (f 8), .int .i64 (f 9), .int .i64 (f 10), .int .i64 (f 11)] 24)) 24).alloc (.cells #[.int .i64 0, .int .i64 0] 33))
    have HF0 := Lib.hid (Ints.two ((w.alloc (.cells #[.int .i64 (f 0), .int .i64 (f 1), .int .i64 (f 2), .int .i64 (f 3), .int .i64 (f 4), .int .i64 (f 5), .int .i64 (f 6), .int .i64 (f 7), .int .i64 (f 8), .int .i64 (f 9), .int .i64 (f 10), .int .i64 (f 11)] 24)).alloc (.cells #[.int .i64 ((fun _ => (0 : Int)) 0), .int .i64 ((fun _ => (0 : Int)) 1), .int .i64 ((fun _ => (0 : Int)) 2), .int .i64 ((fun _ => (0 : Int)) 3), .int .i64 ((fun _ => (0 : Int)) 4), .int .i64 ((fun _ => (0 : Int)) 5), .int .i64 ((fun _ => (0 : Int)) 6), .int .i64 ((fun _ => (0 : Int)) 7), .int .i64 ((fun _ => (0 : Int)) 8), .int .i64 ((fun _ => (0 : Int)) 9), .int .i64 ((fun _ => (0 : Int)) 10), .int .i64 ((fun _ => (0 : Int)) 11)] 24)) 0 0 33 (fun _ => 0) rfl rfl)
    simp only [World.size_alloc] at HX0 HZ0 HF0
    have HB0 := Lib.hid (show Below w.heap.size w (((w.alloc (.cells #[.int .i64 (f 0), .int .i64 (f 1), .int .i64 (f 2), .int .i64 (f 3), .int .i64 (f 4), .int .i64 (f 5), .int .i64 (f 6), .int .i64 (f 7), .int .i64 (f 8), .int .i64 (f 9), .int .i64 (f 10), .int .i64 (f 11)] 24)).alloc (.cells #[.int .i64 ((fun _ => (0 : Int)) 0), .int .i64 ((fun _ => (0 : Int)) 1), .int .i64 ((fun _ => (0 : Int)) 2), .int .i64 ((fun _ => (0 : Int)) 3), .int .i64 ((fun _ => (0 : Int)) 4), .int .i64 ((fun _ => (0 : Int)) 5), .int .i64 ((fun _ => (0 : Int)) 6), .int .i64 ((fun _ => (0 : Int)) 7), .int .i64 ((fun _ => (0 : Int)) 8), .int .i64 ((fun _ => (0 : Int)) 9), .int .i64 ((fun _ => (0 : Int)) 10), .int .i64 ((fun _ => (0 : Int)) 11)] 24)).alloc (.cells #[.int .i64 0, .int .i64 0] 33)) from bel)
    have hsz : (((w.alloc (.cells #[.int .i64 (f 0), .int .i64 (f 1), .int .i64 (f 2), .int .i64 (f 3), .int .i64 (f 4), .int .i64 (f 5), .int .i64 (f 6), .int .i64 (f 7), .int .i64 (f 8), .int .i64 (f 9), .int .i64 (f 10), .int .i64 (f 11)] 24)).alloc (.cells #[.int .i64 ((fun _ => (0 : Int)) 0), .int .i64 ((fun _ => (0 : Int)) 1), .int .i64 ((fun _ => (0 : Int)) 2), .int .i64 ((fun _ => (0 : Int)) 3), .int .i64 ((fun _ => (0 : Int)) 4), .int .i64 ((fun _ => (0 : Int)) 5), .int .i64 ((fun _ => (0 : Int)) 6), .int .i64 ((fun _ => (0 : Int)) 7), .int .i64 ((fun _ => (0 : Int)) 8), .int .i64 ((fun _ => (0 : Int)) 9), .int .i64 ((fun _ => (0 : Int)) 10), .int .i64 ((fun _ => (0 : Int)) 11)] 24)).alloc (.cells #[.int .i64 0, .int .i64 0] 33)).heap.size = w.heap.size + 3 := by simp
    generalize World.alloc _ _ = w1 at *
    have c11 := (HX0.out.2 11 (by decide)).1
    obtain ⟨k0, k1⟩ := two_cells HC.out HB0.out hPm
    rw [HK.out] at k0
    rw [HK1.out] at k1
    have zx := HX0.out.1
    go_upto_region 2 with fail
    generalize hw2 : World.alloc _ _ = w2
    have HF2 := Lib.hid (show Ints w2 (w.heap.size + 3) 2 (fr2 k i) from by rw [← hw2, ← hsz]; exact Ints.two w1 k i 33 _ rfl rfl)
    have HX2 := Lib.hid (show Ints w2 w.heap.size 12 f from by rw [← hw2]; exact HX0.out.alloc _)
    have HZ2 := Lib.hid (show Ints w2 (w.heap.size + 1) 12 (fun _ => 0) from by rw [← hw2]; exact HZ0.out.alloc _)
    have HT2 := Lib.hid (show Ints w2 (w.heap.size + 1 + 1) 2 (fun _ => 0) from by rw [← hw2]; exact HF0.out.alloc _)
    have HB2 := Lib.hid (show Below w.heap.size w w2 from by rw [← hw2]; exact kalloc HB0.out _)
    clear hw2 hsz c11 k0 k1 zx HX0 HZ0 HF0 HB0
    refine region_below (by kernel_rfl) (by kernel_rfl) ?_; intro wR HW
    have HBR := Lib.hid (show Below w.heap.size w wR from by rw [← HW.out]; exact HB2.out)
    have HFR := Lib.hid (show Ints wR (w.heap.size + 3) 2 (fr2 k i) from by rw [← HW.out]; exact HF2.out)
    have HXR := Lib.hid (show Ints wR w.heap.size 12 f from by rw [← HW.out]; exact HX2.out)
    have HZR := Lib.hid (show Ints wR (w.heap.size + 1) 12 (fun _ => 0) from by rw [← HW.out]; exact HZ2.out)
    have HTR := Lib.hid (show Ints wR (w.heap.size + 1 + 1) 2 (fun _ => 0) from by rw [← HW.out]; exact HT2.out)
    clear HW HB2 HF2 HX2 HZ2 HT2
    have c0 := cell_regrown (show wR.cell? ⟨w.heap.size + 3, 0, none⟩ = some (.int .i64 k) from (HFR.out.2 0 (by decide)).1)
    have c1 := cell_regrown (show wR.cell? ⟨w.heap.size + 3, 1, none⟩ = some (.int .i64 i) from (HFR.out.2 1 (by decide)).1)
    have c11 := cell_regrown (HXR.out.2 11 (by decide)).1
    have zr := HFR.out.1
    (repeat (first | go_big_quiet_step (with_reducible exact Calls.regrown_of (CI.out _)) | quiet_step (with_reducible exact Calls.regrown_of (CI.out _)))); refine wpQuiet_nil ?_; intro w2 hb2
    have HB2 := Lib.hid (show Below w.heap.size w w2 from by have := HBR.out; exact bthru hb2 this)
    have HF2 := Lib.hid (HFR.out.below hb2)
    have HX2 := Lib.hid (HXR.out.below hb2)
    have HZ2 := Lib.hid (HZR.out.below hb2)
    have HT2 := Lib.hid (HTR.out.below hb2)
    clear hb2 HBR HFR HXR HZR HTR c0 c1 c11 zr
    have HX2_c0 := (HX2.out.2 0 (by decide)).1; have HX2_c1 := (HX2.out.2 1 (by decide)).1; have HX2_c2 := (HX2.out.2 2 (by decide)).1; have HX2_c3 := (HX2.out.2 3 (by decide)).1; have HX2_c4 := (HX2.out.2 4 (by decide)).1; have HX2_c5 := (HX2.out.2 5 (by decide)).1; have HX2_c6 := (HX2.out.2 6 (by decide)).1; have HX2_c7 := (HX2.out.2 7 (by decide)).1; have HX2_c8 := (HX2.out.2 8 (by decide)).1; have HX2_c9 := (HX2.out.2 9 (by decide)).1; have HX2_c10 := (HX2.out.2 10 (by decide)).1; have HX2_c11 := (HX2.out.2 11 (by decide)).1; have HX2_z := HX2.out.1
    have HZ2_r := HZ2.out.row12; have HZ2_c0 := (HZ2.out.2 0 (by decide)).1; have HZ2_f0 := (HZ2.out.2 0 (by decide)).2; have HZ2_c1 := (HZ2.out.2 1 (by decide)).1; have HZ2_f1 := (HZ2.out.2 1 (by decide)).2; have HZ2_c2 := (HZ2.out.2 2 (by decide)).1; have HZ2_f2 := (HZ2.out.2 2 (by decide)).2; have HZ2_c3 := (HZ2.out.2 3 (by decide)).1; have HZ2_f3 := (HZ2.out.2 3 (by decide)).2; have HZ2_c4 := (HZ2.out.2 4 (by decide)).1; have HZ2_f4 := (HZ2.out.2 4 (by decide)).2; have HZ2_c5 := (HZ2.out.2 5 (by decide)).1; have HZ2_f5 := (HZ2.out.2 5 (by decide)).2; have HZ2_c6 := (HZ2.out.2 6 (by decide)).1; have HZ2_f6 := (HZ2.out.2 6 (by decide)).2; have HZ2_c7 := (HZ2.out.2 7 (by decide)).1; have HZ2_f7 := (HZ2.out.2 7 (by decide)).2; have HZ2_c8 := (HZ2.out.2 8 (by decide)).1; have HZ2_f8 := (HZ2.out.2 8 (by decide)).2; have HZ2_c9 := (HZ2.out.2 9 (by decide)).1; have HZ2_f9 := (HZ2.out.2 9 (by decide)).2; have HZ2_c10 := (HZ2.out.2 10 (by decide)).1; have HZ2_f10 := (HZ2.out.2 10 (by decide)).2; have HZ2_c11 := (HZ2.out.2 11 (by decide)).1; have HZ2_f11 := (HZ2.out.2 11 (by decide)).2; have HZ2_z := HZ2.out.1
    obtain ⟨a0, b0⟩ := HT2.out.2 0 (by decide)
    obtain ⟨a1, b1'⟩ := HT2.out.2 1 (by decide)
    have ar := HT2.out.row2
    have az := HT2.out.1
    have := HB2.out
    go_wp2
    generalize hwf : World.setCell _ _ _ = wf
    have r1 : Ints wf (w.heap.size + 1) 12 f := by rw [← hwf]; exact ((HZ2.out.set12 f).other _ _ _ (by omega)).other _ _ _ (by omega)
    have r2 : Ints wf (w.heap.size + 1 + 1) 2 (fr2 0 0) := by rw [← hwf]; exact ((HT2.out.other12 _ f (by omega)).set 0 0 (by decide) (fun j => if j = 0 then 0 else 0) (fun j => by simp)).set 1 0 (by decide) _ (fun j => by unfold fr2; simp)
    have r3 : Below w.heap.size w wf := by rw [← hwf]; exact bel
    refine bodyPost_ret (ret_cell2 Try.results39 (w.heap.size + 1) (hubL (f)) _ (w.heap.size + 1 + 1) (frL (0) (0)) _ rfl rfl (hubL_row r1) Try.underlying24 rfl (by kernel_rfl) (frL_row r2) Try.underlying33 rfl (by kernel_rfl)) rfl ⟨rfl, r3⟩
end Go.Proofs.Ytkdmmomfolhfbaa
namespace Go.Proofs.Ytkdmmomfolhfbaa
set_option linter.unusedVariables false
set_option linter.unusedSimpArgs false
open Go.ChangeShapes Go.WideShapes Go.RowKit

/-! The program's Settle. -/
set_option maxHeartbeats 4000000 in
theorem gSettle_any (n : Int) (f : Nat → Int) (w : World) (hf : Bd12 f) :
    Calls Try.prog 20 #[.int .i64 n, .agg #[.int .i64 (f 0), .int .i64 (f 1), .int .i64 (f 2), .int .i64 (f 3), .int .i64 (f 4), .int .i64 (f 5), .int .i64 (f 6), .int .i64 (f 7), .int .i64 (f 8), .int .i64 (f 9), .int .i64 (f 10), .int .i64 (f 11)]] w fun e w' => e = .returned (.tuple #[.agg #[.int .i64 (Gate.settle n f 0), .int .i64 (Gate.settle n f 1), .int .i64 (Gate.settle n f 2), .int .i64 (Gate.settle n f 3), .int .i64 (Gate.settle n f 4), .int .i64 (Gate.settle n f 5), .int .i64 (Gate.settle n f 6), .int .i64 (Gate.settle n f 7), .int .i64 (Gate.settle n f 8), .int .i64 (Gate.settle n f 9), .int .i64 (Gate.settle n f 10), .int .i64 (Gate.settle n f 11)], .int .i64 (Vote.tickErr n f)]) ∧ Below w.heap.size w w' := by
  have CR := Lib.hid (fun w => vRight_any n f w hf)
  have CV := Lib.hid (fun w => vVotes_any n f (f 11) w hf)
  have CT := Lib.hid (fun w => vBest_any n f w hf)
  by_cases h : Vote.ok n f = true
  · have hok := Vote.ok_iff.1 h
    have h38 := hok.1
    rw [tickErr_yes h]
    rw [h] at CR
    have CB := Lib.hid (fun w => block_val n _ (Conf.tm_yes (Conf.right_spec.2 h38)) w)
    have h10 := hok.2.2.2.2.1
    have HX0 := Lib.hid ((Ints.box w f 24).alloc (.cells #[.int .i64 ((fun _ => (0 : Int)) 0), .int .i64 ((fun _ => (0 : Int)) 1), .int .i64 ((fun _ => (0 : Int)) 2), .int .i64 ((fun _ => (0 : Int)) 3), .int .i64 ((fun _ => (0 : Int)) 4), .int .i64 ((fun _ => (0 : Int)) 5), .int .i64 ((fun _ => (0 : Int)) 6), .int .i64 ((fun _ => (0 : Int)) 7), .int .i64 ((fun _ => (0 : Int)) 8), .int .i64 ((fun _ => (0 : Int)) 9), .int .i64 ((fun _ => (0 : Int)) 10), .int .i64 ((fun _ => (0 : Int)) 11)] 24))
    have HZ0 := Lib.hid (Ints.zeros (w.alloc (.cells #[.int .i64 (f 0), .int .i64 (f 1), .int .i64 (f 2), .int .i64 (f 3), .int .i64 (f 4), .int .i64 (f 5), .int .i64 (f 6), .int .i64 (f 7), .int .i64 (f 8), .int .i64 (f 9), .int .i64 (f 10), .int .i64 (f 11)] 24)) 24)
    have HGH := Lib.hid (fun h0 hv j => settle_hold hok h0 hv j)
    have HGK := Lib.hid (fun h0 hv => settle_keep hok h0 hv)
    have HGT := Lib.hid (fun h0 hv j => settle_take hok h0 hv j)
    have HGN := Lib.hid (fun h0 hv => settle_none hok h0 hv)
    have hP : Hid (0 < f 10 ∨ f 10 = 0) := by show 0 < f 10 ∨ f 10 = 0; omega
    generalize Gate.settle n f = g at *
    generalize Vote.votes n f (f 11) = x at *
    generalize Vote.bestVotes n f = y at *
    generalize Vote.best n f = be at *
    have hX : ∃ X : Int, (x : Int) = X := ⟨_, rfl⟩
    obtain ⟨X, hX⟩ := hX
    have hY : ∃ Y : Int, (y : Int) = Y := ⟨_, rfl⟩
    obtain ⟨Y, hY⟩ := hY
    simp only [hX] at CV
    simp only [hY] at CT
    have EX := Lib.hid hX
    have EY := Lib.hid hY
    clear h hok h10 hf hX hY
    go_enter Try.func20, Try.ntmps20
    go_wp2_with fail
    refine (CR.out _).mono ?_; rintro e w1 ⟨rfl, hb⟩; have hz := hb.size; (try simp only [World.size_alloc, World.heap_drewN, World.size_drew, World.size_setCell] at hz)
    have HB1 := Lib.hid (show Below w.heap.size w w1 from bel)
    have HX1 := Lib.hid (HX0.out.below hb)
    have HZ1 := Lib.hid (HZ0.out.below hb)
    rw [World.size_alloc] at HZ1
    clear hb HX0 HZ0
    go_upto_region 3 with fail
    refine region_below (by kernel_rfl) (by kernel_rfl) ?_; intro wR HW
    have HBR := Lib.hid (show Below w.heap.size w wR from by rw [← HW.out]; exact HB1.out)
    have HXR := Lib.hid (show Ints wR w.heap.size 12 f from by rw [← HW.out]; exact HX1.out)
    have HZR := Lib.hid (show Ints wR (w.heap.size + 1) 12 (fun _ => 0) from by rw [← HW.out]; exact HZ1.out)
    clear HW HB1 HX1 HZ1
    have HXR_c0 := (HXR.out.2 0 (by decide)).1; have HXR_c1 := (HXR.out.2 1 (by decide)).1; have HXR_c2 := (HXR.out.2 2 (by decide)).1; have HXR_c3 := (HXR.out.2 3 (by decide)).1; have HXR_c4 := (HXR.out.2 4 (by decide)).1; have HXR_c5 := (HXR.out.2 5 (by decide)).1; have HXR_c6 := (HXR.out.2 6 (by decide)).1; have HXR_c7 := (HXR.out.2 7 (by decide)).1; have HXR_c8 := (HXR.out.2 8 (by decide)).1; have HXR_c9 := (HXR.out.2 9 (by decide)).1; have HXR_c10 := (HXR.out.2 10 (by decide)).1; have HXR_c11 := (HXR.out.2 11 (by decide)).1; have HXR_z := HXR.out.1
    replace HXR_c0 := cell_regrown HXR_c0; replace HXR_c1 := cell_regrown HXR_c1; replace HXR_c2 := cell_regrown HXR_c2; replace HXR_c3 := cell_regrown HXR_c3; replace HXR_c4 := cell_regrown HXR_c4; replace HXR_c5 := cell_regrown HXR_c5; replace HXR_c6 := cell_regrown HXR_c6; replace HXR_c7 := cell_regrown HXR_c7; replace HXR_c8 := cell_regrown HXR_c8; replace HXR_c9 := cell_regrown HXR_c9; replace HXR_c10 := cell_regrown HXR_c10; replace HXR_c11 := cell_regrown HXR_c11
    (repeat (first | go_big_quiet_step (with_reducible exact Calls.regrown_of (CV.out _)) | quiet_step (with_reducible exact Calls.regrown_of (CV.out _)))); refine wpQuiet_nil ?_; intro w2 hb2
    have HB2 := Lib.hid (show Below w.heap.size w w2 from by have := HBR.out; exact bthru hb2 this)
    have HX2 := Lib.hid (HXR.out.below hb2)
    have HZ2 := Lib.hid (HZR.out.below hb2)
    clear hb2 HBR HZR
    clear HXR_c0 HXR_c1 HXR_c2 HXR_c3 HXR_c4 HXR_c5 HXR_c6 HXR_c7 HXR_c8 HXR_c9 HXR_c10 HXR_c11 HXR_z
    clear HXR
    rcases hP.out with h0 | h0
    · have e0 : (f 10 == 0) = false := by simp; omega
      have c10 := (HX2.out.2 10 (by decide)).1
      have zz := HX2.out.1
      by_cases hx : 2 ≤ X
      · have HG := Lib.hid (fun j => HGH.out h0 (by have := EX.out; omega) j)
        clear h0
        go_wp2_with fail
        refine (CB.out _).mono ?_; rintro e w3' ⟨rfl, hb⟩; have hz := hb.size; (try simp only [World.size_alloc, World.heap_drewN, World.size_drew, World.size_setCell] at hz)
        replace HB2 := Lib.hid (show Below w.heap.size w w3' from by have := HB2.out; exact bel)
        replace HX2 := Lib.hid (HX2.out.below hb)
        replace HZ2 := Lib.hid (HZ2.out.below hb)
        clear hb c10 zz
        obtain ⟨c11, f11⟩ := HX2.out.2 11 (by decide)
        obtain ⟨c10, f10⟩ := HX2.out.2 10 (by decide)
        have zz := HX2.out.1
        go_upto_region 8 with fail
        generalize hw3 : World.setCell _ _ _ = w3
        have HX3 := Lib.hid (show Ints w3 w.heap.size 12 g from by
          rw [← hw3]
          refine (HX2.out.set 11 (f 11) (by omega) f (fun j => ?_)).set 10 (2 * n) (by omega) _ HG.out
          by_cases e : j = 11
          · subst e; rw [if_pos rfl]
          · rw [if_neg e])
        have HZ3 := Lib.hid (show Ints w3 (w.heap.size + 1) 12 (fun _ => 0) from by rw [← hw3]; exact (HZ2.out.other _ _ _ (by omega)).other _ _ _ (by omega))
        have HB3 := Lib.hid (show Below w.heap.size w w3 from by have := HB2.out; rw [← hw3]; exact bel)
        clear hw3 HX2 HZ2 HB2 c10 f10 c11 f11 zz
        have HX3_c0 := (HX3.out.2 0 (by decide)).1; have HX3_c1 := (HX3.out.2 1 (by decide)).1; have HX3_c2 := (HX3.out.2 2 (by decide)).1; have HX3_c3 := (HX3.out.2 3 (by decide)).1; have HX3_c4 := (HX3.out.2 4 (by decide)).1; have HX3_c5 := (HX3.out.2 5 (by decide)).1; have HX3_c6 := (HX3.out.2 6 (by decide)).1; have HX3_c7 := (HX3.out.2 7 (by decide)).1; have HX3_c8 := (HX3.out.2 8 (by decide)).1; have HX3_c9 := (HX3.out.2 9 (by decide)).1; have HX3_c10 := (HX3.out.2 10 (by decide)).1; have HX3_c11 := (HX3.out.2 11 (by decide)).1; have HX3_z := HX3.out.1
        have HZ3_r := HZ3.out.row12; have HZ3_c0 := (HZ3.out.2 0 (by decide)).1; have HZ3_f0 := (HZ3.out.2 0 (by decide)).2; have HZ3_c1 := (HZ3.out.2 1 (by decide)).1; have HZ3_f1 := (HZ3.out.2 1 (by decide)).2; have HZ3_c2 := (HZ3.out.2 2 (by decide)).1; have HZ3_f2 := (HZ3.out.2 2 (by decide)).2; have HZ3_c3 := (HZ3.out.2 3 (by decide)).1; have HZ3_f3 := (HZ3.out.2 3 (by decide)).2; have HZ3_c4 := (HZ3.out.2 4 (by decide)).1; have HZ3_f4 := (HZ3.out.2 4 (by decide)).2; have HZ3_c5 := (HZ3.out.2 5 (by decide)).1; have HZ3_f5 := (HZ3.out.2 5 (by decide)).2; have HZ3_c6 := (HZ3.out.2 6 (by decide)).1; have HZ3_f6 := (HZ3.out.2 6 (by decide)).2; have HZ3_c7 := (HZ3.out.2 7 (by decide)).1; have HZ3_f7 := (HZ3.out.2 7 (by decide)).2; have HZ3_c8 := (HZ3.out.2 8 (by decide)).1; have HZ3_f8 := (HZ3.out.2 8 (by decide)).2; have HZ3_c9 := (HZ3.out.2 9 (by decide)).1; have HZ3_f9 := (HZ3.out.2 9 (by decide)).2; have HZ3_c10 := (HZ3.out.2 10 (by decide)).1; have HZ3_f10 := (HZ3.out.2 10 (by decide)).2; have HZ3_c11 := (HZ3.out.2 11 (by decide)).1; have HZ3_f11 := (HZ3.out.2 11 (by decide)).2; have HZ3_z := HZ3.out.1
        have := HB3.out
        go_wp2
        generalize hwf : World.setCell _ _ _ = wf; have r1 : Ints wf (w.heap.size + 1) 12 (g) := (by rw [← hwf]; exact HZ3.out.set12 (g)); have r3 : Below w.heap.size w wf := (by rw [← hwf]; exact bel); refine bodyPost_ret (ret_cell_tmp Try.results20 (w.heap.size + 1) (hubL (g)) _ rfl (hubL_row r1) Try.underlying24 rfl (by kernel_rfl)) rfl ⟨rfl, r3⟩
      · go_upto_region 8 with fail
        replace HX2 := Lib.hid (HX2.out.like (fun j _ => (congrFun (HGK.out (by omega) (by have := EX.out; omega)) j).symm))
        clear c10
        have HX2_c0 := (HX2.out.2 0 (by decide)).1; have HX2_c1 := (HX2.out.2 1 (by decide)).1; have HX2_c2 := (HX2.out.2 2 (by decide)).1; have HX2_c3 := (HX2.out.2 3 (by decide)).1; have HX2_c4 := (HX2.out.2 4 (by decide)).1; have HX2_c5 := (HX2.out.2 5 (by decide)).1; have HX2_c6 := (HX2.out.2 6 (by decide)).1; have HX2_c7 := (HX2.out.2 7 (by decide)).1; have HX2_c8 := (HX2.out.2 8 (by decide)).1; have HX2_c9 := (HX2.out.2 9 (by decide)).1; have HX2_c10 := (HX2.out.2 10 (by decide)).1; have HX2_c11 := (HX2.out.2 11 (by decide)).1; have HX2_z := HX2.out.1
        have HZ2_r := HZ2.out.row12; have HZ2_c0 := (HZ2.out.2 0 (by decide)).1; have HZ2_f0 := (HZ2.out.2 0 (by decide)).2; have HZ2_c1 := (HZ2.out.2 1 (by decide)).1; have HZ2_f1 := (HZ2.out.2 1 (by decide)).2; have HZ2_c2 := (HZ2.out.2 2 (by decide)).1; have HZ2_f2 := (HZ2.out.2 2 (by decide)).2; have HZ2_c3 := (HZ2.out.2 3 (by decide)).1; have HZ2_f3 := (HZ2.out.2 3 (by decide)).2; have HZ2_c4 := (HZ2.out.2 4 (by decide)).1; have HZ2_f4 := (HZ2.out.2 4 (by decide)).2; have HZ2_c5 := (HZ2.out.2 5 (by decide)).1; have HZ2_f5 := (HZ2.out.2 5 (by decide)).2; have HZ2_c6 := (HZ2.out.2 6 (by decide)).1; have HZ2_f6 := (HZ2.out.2 6 (by decide)).2; have HZ2_c7 := (HZ2.out.2 7 (by decide)).1; have HZ2_f7 := (HZ2.out.2 7 (by decide)).2; have HZ2_c8 := (HZ2.out.2 8 (by decide)).1; have HZ2_f8 := (HZ2.out.2 8 (by decide)).2; have HZ2_c9 := (HZ2.out.2 9 (by decide)).1; have HZ2_f9 := (HZ2.out.2 9 (by decide)).2; have HZ2_c10 := (HZ2.out.2 10 (by decide)).1; have HZ2_f10 := (HZ2.out.2 10 (by decide)).2; have HZ2_c11 := (HZ2.out.2 11 (by decide)).1; have HZ2_f11 := (HZ2.out.2 11 (by decide)).2; have HZ2_z := HZ2.out.1
        have := HB2.out
        go_wp2
        generalize hwf : World.setCell _ _ _ = wf; have r1 : Ints wf (w.heap.size + 1) 12 (g) := (by rw [← hwf]; exact HZ2.out.set12 (g)); have r3 : Below w.heap.size w wf := (by rw [← hwf]; exact bel); refine bodyPost_ret (ret_cell_tmp Try.results20 (w.heap.size + 1) (hubL (g)) _ rfl (hubL_row r1) Try.underlying24 rfl (by kernel_rfl)) rfl ⟨rfl, r3⟩
    · have e1 : ¬ 0 < f 10 := by omega
      have H0 := Lib.hid h0
      have c10 := (HX2.out.2 10 (by decide)).1
      rw [h0] at c10
      have zz := HX2.out.1
      clear h0
      go_upto_region 5 with fail
      clear c10
      have HX2_c0 := (HX2.out.2 0 (by decide)).1; have HX2_c1 := (HX2.out.2 1 (by decide)).1; have HX2_c2 := (HX2.out.2 2 (by decide)).1; have HX2_c3 := (HX2.out.2 3 (by decide)).1; have HX2_c4 := (HX2.out.2 4 (by decide)).1; have HX2_c5 := (HX2.out.2 5 (by decide)).1; have HX2_c6 := (HX2.out.2 6 (by decide)).1; have HX2_c7 := (HX2.out.2 7 (by decide)).1; have HX2_c8 := (HX2.out.2 8 (by decide)).1; have HX2_c9 := (HX2.out.2 9 (by decide)).1; have HX2_c10 := (HX2.out.2 10 (by decide)).1; have HX2_c11 := (HX2.out.2 11 (by decide)).1; have HX2_z := HX2.out.1
      go_wp2_with fail
      refine (CT.out _).mono ?_; rintro e w3 ⟨rfl, hb⟩; have hz := hb.size; (try simp only [World.size_alloc, World.heap_drewN, World.size_drew, World.size_setCell] at hz)
      have HB3 := Lib.hid (show Below w.heap.size w w3 from by have := HB2.out; exact bel)
      have HX3 := Lib.hid (HX2.out.below hb)
      have HZ3 := Lib.hid (HZ2.out.below hb)
      clear hb HZ2 HB2
      clear HX2_c0 HX2_c1 HX2_c2 HX2_c3 HX2_c4 HX2_c5 HX2_c6 HX2_c7 HX2_c8 HX2_c9 HX2_c10 HX2_c11 HX2_z
      clear HX2
      by_cases hx : 2 ≤ Y
      · have HG := Lib.hid (fun j => HGT.out (by omega) (by have := EY.out; omega) j)
        clear e1 zz
        go_wp2_with fail
        refine (CB.out _).mono ?_; rintro e w4' ⟨rfl, hb⟩; have hz := hb.size; (try simp only [World.size_alloc, World.heap_drewN, World.size_drew, World.size_setCell] at hz)
        replace HB3 := Lib.hid (show Below w.heap.size w w4' from by have := HB3.out; exact bel)
        replace HX3 := Lib.hid (HX3.out.below hb)
        replace HZ3 := Lib.hid (HZ3.out.below hb)
        clear hb
        obtain ⟨c11, f11⟩ := HX3.out.2 11 (by decide)
        obtain ⟨c10, f10⟩ := HX3.out.2 10 (by decide)
        have zz3 := HX3.out.1
        go_upto_region 8 with fail
        generalize hw4 : World.setCell _ _ _ = w4
        have HX4 := Lib.hid (show Ints w4 w.heap.size 12 g from by
          rw [← hw4]
          exact (HX3.out.set 11 be (by omega) (fun j => if j = 11 then (be : Int) else f j) (fun j => rfl)).set 10 (2 * n) (by omega) _ HG.out)
        have HZ4 := Lib.hid (show Ints w4 (w.heap.size + 1) 12 (fun _ => 0) from by rw [← hw4]; exact (HZ3.out.other _ _ _ (by omega)).other _ _ _ (by omega))
        have HB4 := Lib.hid (show Below w.heap.size w w4 from by have := HB3.out; rw [← hw4]; exact bel)
        clear hw4 HX3 HZ3 HB3 c10 f10 c11 f11 zz3
        have HX4_c0 := (HX4.out.2 0 (by decide)).1; have HX4_c1 := (HX4.out.2 1 (by decide)).1; have HX4_c2 := (HX4.out.2 2 (by decide)).1; have HX4_c3 := (HX4.out.2 3 (by decide)).1; have HX4_c4 := (HX4.out.2 4 (by decide)).1; have HX4_c5 := (HX4.out.2 5 (by decide)).1; have HX4_c6 := (HX4.out.2 6 (by decide)).1; have HX4_c7 := (HX4.out.2 7 (by decide)).1; have HX4_c8 := (HX4.out.2 8 (by decide)).1; have HX4_c9 := (HX4.out.2 9 (by decide)).1; have HX4_c10 := (HX4.out.2 10 (by decide)).1; have HX4_c11 := (HX4.out.2 11 (by decide)).1; have HX4_z := HX4.out.1
        have HZ4_r := HZ4.out.row12; have HZ4_c0 := (HZ4.out.2 0 (by decide)).1; have HZ4_f0 := (HZ4.out.2 0 (by decide)).2; have HZ4_c1 := (HZ4.out.2 1 (by decide)).1; have HZ4_f1 := (HZ4.out.2 1 (by decide)).2; have HZ4_c2 := (HZ4.out.2 2 (by decide)).1; have HZ4_f2 := (HZ4.out.2 2 (by decide)).2; have HZ4_c3 := (HZ4.out.2 3 (by decide)).1; have HZ4_f3 := (HZ4.out.2 3 (by decide)).2; have HZ4_c4 := (HZ4.out.2 4 (by decide)).1; have HZ4_f4 := (HZ4.out.2 4 (by decide)).2; have HZ4_c5 := (HZ4.out.2 5 (by decide)).1; have HZ4_f5 := (HZ4.out.2 5 (by decide)).2; have HZ4_c6 := (HZ4.out.2 6 (by decide)).1; have HZ4_f6 := (HZ4.out.2 6 (by decide)).2; have HZ4_c7 := (HZ4.out.2 7 (by decide)).1; have HZ4_f7 := (HZ4.out.2 7 (by decide)).2; have HZ4_c8 := (HZ4.out.2 8 (by decide)).1; have HZ4_f8 := (HZ4.out.2 8 (by decide)).2; have HZ4_c9 := (HZ4.out.2 9 (by decide)).1; have HZ4_f9 := (HZ4.out.2 9 (by decide)).2; have HZ4_c10 := (HZ4.out.2 10 (by decide)).1; have HZ4_f10 := (HZ4.out.2 10 (by decide)).2; have HZ4_c11 := (HZ4.out.2 11 (by decide)).1; have HZ4_f11 := (HZ4.out.2 11 (by decide)).2; have HZ4_z := HZ4.out.1
        have := HB4.out
        go_wp2
        generalize hwf : World.setCell _ _ _ = wf; have r1 : Ints wf (w.heap.size + 1) 12 (g) := (by rw [← hwf]; exact HZ4.out.set12 (g)); have r3 : Below w.heap.size w wf := (by rw [← hwf]; exact bel); refine bodyPost_ret (ret_cell_tmp Try.results20 (w.heap.size + 1) (hubL (g)) _ rfl (hubL_row r1) Try.underlying24 rfl (by kernel_rfl)) rfl ⟨rfl, r3⟩
      · replace HX3 := Lib.hid (HX3.out.like (fun j _ => (congrFun (HGN.out (by omega) (by have := EY.out; omega)) j).symm))
        clear e1 zz
        have HX3_c0 := (HX3.out.2 0 (by decide)).1; have HX3_c1 := (HX3.out.2 1 (by decide)).1; have HX3_c2 := (HX3.out.2 2 (by decide)).1; have HX3_c3 := (HX3.out.2 3 (by decide)).1; have HX3_c4 := (HX3.out.2 4 (by decide)).1; have HX3_c5 := (HX3.out.2 5 (by decide)).1; have HX3_c6 := (HX3.out.2 6 (by decide)).1; have HX3_c7 := (HX3.out.2 7 (by decide)).1; have HX3_c8 := (HX3.out.2 8 (by decide)).1; have HX3_c9 := (HX3.out.2 9 (by decide)).1; have HX3_c10 := (HX3.out.2 10 (by decide)).1; have HX3_c11 := (HX3.out.2 11 (by decide)).1; have HX3_z := HX3.out.1
        have HZ3_r := HZ3.out.row12; have HZ3_c0 := (HZ3.out.2 0 (by decide)).1; have HZ3_f0 := (HZ3.out.2 0 (by decide)).2; have HZ3_c1 := (HZ3.out.2 1 (by decide)).1; have HZ3_f1 := (HZ3.out.2 1 (by decide)).2; have HZ3_c2 := (HZ3.out.2 2 (by decide)).1; have HZ3_f2 := (HZ3.out.2 2 (by decide)).2; have HZ3_c3 := (HZ3.out.2 3 (by decide)).1; have HZ3_f3 := (HZ3.out.2 3 (by decide)).2; have HZ3_c4 := (HZ3.out.2 4 (by decide)).1; have HZ3_f4 := (HZ3.out.2 4 (by decide)).2; have HZ3_c5 := (HZ3.out.2 5 (by decide)).1; have HZ3_f5 := (HZ3.out.2 5 (by decide)).2; have HZ3_c6 := (HZ3.out.2 6 (by decide)).1; have HZ3_f6 := (HZ3.out.2 6 (by decide)).2; have HZ3_c7 := (HZ3.out.2 7 (by decide)).1; have HZ3_f7 := (HZ3.out.2 7 (by decide)).2; have HZ3_c8 := (HZ3.out.2 8 (by decide)).1; have HZ3_f8 := (HZ3.out.2 8 (by decide)).2; have HZ3_c9 := (HZ3.out.2 9 (by decide)).1; have HZ3_f9 := (HZ3.out.2 9 (by decide)).2; have HZ3_c10 := (HZ3.out.2 10 (by decide)).1; have HZ3_f10 := (HZ3.out.2 10 (by decide)).2; have HZ3_c11 := (HZ3.out.2 11 (by decide)).1; have HZ3_f11 := (HZ3.out.2 11 (by decide)).2; have HZ3_z := HZ3.out.1
        have := HB3.out
        go_wp2
        generalize hwf : World.setCell _ _ _ = wf; have r1 : Ints wf (w.heap.size + 1) 12 (g) := (by rw [← hwf]; exact HZ3.out.set12 (g)); have r3 : Below w.heap.size w wf := (by rw [← hwf]; exact bel); refine bodyPost_ret (ret_cell_tmp Try.results20 (w.heap.size + 1) (hubL (g)) _ rfl (hubL_row r1) Try.underlying24 rfl (by kernel_rfl)) rfl ⟨rfl, r3⟩
  · have h := Bool.eq_false_iff.2 h
    rw [tickErr_no h]
    rw [h] at CR
    simp only [settle_bad h]
    go_enter Try.func20, Try.ntmps20
    go_wp2_with fail
    have HZ0 := Lib.hid (Ints.zeros (w.alloc (.cells #[.int .i64 (f 0), .int .i64 (f 1), .int .i64 (f 2), .int .i64 (f 3), .int .i64 (f 4), .int .i64 (f 5), .int .i64 (f 6), .int .i64 (f 7), .int .i64 (f 8), .int .i64 (f 9), .int .i64 (f 10), .int .i64 (f 11)] 24)) 24)
    refine (CR.out _).mono ?_; rintro e w1 ⟨rfl, hb⟩; have hz := hb.size; (try simp only [World.size_alloc, World.heap_drewN, World.size_drew, World.size_setCell] at hz)
    have HB1 := Lib.hid (show Below w.heap.size w w1 from bel)
    have HZ := Lib.hid (HZ0.out.below hb)
    rw [World.size_alloc] at HZ
    clear hb HZ0
    have HZ_r := HZ.out.row12; have HZ_c0 := (HZ.out.2 0 (by decide)).1; have HZ_f0 := (HZ.out.2 0 (by decide)).2; have HZ_c1 := (HZ.out.2 1 (by decide)).1; have HZ_f1 := (HZ.out.2 1 (by decide)).2; have HZ_c2 := (HZ.out.2 2 (by decide)).1; have HZ_f2 := (HZ.out.2 2 (by decide)).2; have HZ_c3 := (HZ.out.2 3 (by decide)).1; have HZ_f3 := (HZ.out.2 3 (by decide)).2; have HZ_c4 := (HZ.out.2 4 (by decide)).1; have HZ_f4 := (HZ.out.2 4 (by decide)).2; have HZ_c5 := (HZ.out.2 5 (by decide)).1; have HZ_f5 := (HZ.out.2 5 (by decide)).2; have HZ_c6 := (HZ.out.2 6 (by decide)).1; have HZ_f6 := (HZ.out.2 6 (by decide)).2; have HZ_c7 := (HZ.out.2 7 (by decide)).1; have HZ_f7 := (HZ.out.2 7 (by decide)).2; have HZ_c8 := (HZ.out.2 8 (by decide)).1; have HZ_f8 := (HZ.out.2 8 (by decide)).2; have HZ_c9 := (HZ.out.2 9 (by decide)).1; have HZ_f9 := (HZ.out.2 9 (by decide)).2; have HZ_c10 := (HZ.out.2 10 (by decide)).1; have HZ_f10 := (HZ.out.2 10 (by decide)).2; have HZ_c11 := (HZ.out.2 11 (by decide)).1; have HZ_f11 := (HZ.out.2 11 (by decide)).2; have HZ_z := HZ.out.1
    have := HB1.out
    go_wp2
    generalize hwf : World.setCell _ _ _ = wf; have r1 : Ints wf (w.heap.size + 1) 12 (fun _ => 0) := (by rw [← hwf]; exact HZ.out.set12 (fun _ => 0)); have r3 : Below w.heap.size w wf := (by rw [← hwf]; exact bel); refine bodyPost_ret (ret_cell_tmp Try.results20 (w.heap.size + 1) (hubL (fun _ => 0)) _ rfl (hubL_row r1) Try.underlying24 rfl (by kernel_rfl)) rfl ⟨rfl, r3⟩
end Go.Proofs.Ytkdmmomfolhfbaa
