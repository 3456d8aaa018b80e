
import Derived.Test.YtkdmmomfolhfbaaRows
import Derived.Test.YtkdmmomfolhfbaaMem
import Derived.Test.YtkdmmomfolhfbaaCount
import Derived.LoopTactic
import Derived.Deep.QuietTactic
import Derived.BigQuiet
import Derived.RegionTactic
import Derived.IntWalk
import Derived.Deep.Cut
import Derived.Deep.CutRange
import Derived.BigRegion
import Derived.StillTailTactics
import Derived.Test.YtkdmmomfolhfbaaPure
namespace Go.Proofs.Ytkdmmomfolhfbaa
set_option linter.unusedVariables false
set_option linter.unusedSimpArgs false
open Go.ChangeShapes Go.WideShapes Go.RowKit

theorem refIn_any (c m : Int) (w : World) :
    Calls Try.prog 27 #[.int .i64 c, .int .i64 m] w fun e w' => e = .returned (.bool (decide (0 ≤ c ∧ c ≤ m))) ∧ w = w' := by
  go_enter Try.func27, Try.ntmps27
  go_wp2
  all_goals
    go_ret
    exact ⟨ret_bool (by simp [*] <;> omega), rfl⟩
theorem refIn_val (c m : Int) (b : Bool) (h : decide (0 ≤ c ∧ c ≤ m) = b) (w : World) :
    Calls Try.prog 27 #[.int .i64 c, .int .i64 m] w fun e w' => e = .returned (.bool b) ∧ w' = w := by
  rw [← h]
  exact (refIn_any c m w).mono fun e w' ⟨h1, h2⟩ => ⟨h1, h2.symm⟩
theorem refBlock_val (n x : Int) (h : Conf.tm n 2 = x) (w : World) :
    Calls Try.prog 28 #[.int .i64 n] w fun e w' => e = .returned (.int .i64 x) ∧ w' = w := by
  rw [← h]
  exact (refCBlock_any n w).mono fun e w' ⟨h1, h2⟩ => ⟨h1, h2.symm⟩
set_option maxHeartbeats 2000000 in
theorem refVRight_any (n : Int) (f : Nat → Int) (w : World) :
    Calls Try.prog 14 #[.int .i64 n, .agg #[.int .i64 (f 0), .int .i64 (f 1), .int .i64 (f 2), .int .i64 (f 3), .int .i64 (f 4), .int .i64 (f 5), .int .i64 (f 6), .int .i64 (f 7), .int .i64 (f 8), .int .i64 (f 9), .int .i64 (f 10), .int .i64 (f 11)]] w fun e w' => e = .returned (.bool (Vote.ok n f)) ∧ Below w.heap.size w w' := by
  by_cases h : Conf.right n = true
  · have h38 := Conf.right_spec.1 h
    have HR := Lib.hid h
    clear h
    go_enter Try.func14, Try.ntmps14
    go_wp2_with fail
    refine (refCright_any _ _).mono ?_; rintro e w' ⟨rfl, rfl⟩
    rw [HR.out]
    go_wp2_with fail
    have HI := Lib.hid (Ints.box w f 24)
    go_loopw [5] (fun k wr => ∃ K : Nat, K ≤ 8 ∧ k = .int .i64 K ∧ Ints wr w.heap.size 12 f ∧ Below w.heap.size w wr ∧ ∀ j : Nat, j < K → 0 ≤ f j ∧ f j ≤ Vote.most n j) (fun k _ => 8 - (intOf k).toNat)
    case atStart => exact ⟨0, by omega, rfl, HI.out, bel, fun j hj => by omega⟩
    case round =>
      clear HI
      obtain ⟨K, hK, rfl, hI, hb, hall⟩ := hrel
      have HB := Lib.hid hb
      have HA := Lib.hid hall
      by_cases hlt : K < 8
      · have h1 : (K : Int) < 8 := by omega
        have h0 : (0 : Int) ≤ K := by omega
        have c0 := (hI.2 K (by omega)).1
        have HI := Lib.hid hI
        clear hb hall hI
        by_cases hp : (K : Int) < n
        · have CI := Lib.hid (fun b hh w => refIn_val (f K) n b hh w)
          by_cases hq : 0 ≤ f K ∧ f K ≤ n
          · have HQ := Lib.hid hq
            have C := Lib.hid (CI.out true (decide_eq_true hq))
            clear hq CI
            go_wp2_with fail
            refine (C.out _).mono ?_; rintro e w' ⟨rfl, rfl⟩
            go_wp2
            go_roundw
            case rel =>
              refine ⟨K + 1, by omega, by go_num, HI.out, HB.out, fun j hj => ?_⟩
              by_cases e : j = K
              · subst e; rw [Vote.most_yes hp]; exact HQ.out
              · exact HA.out j (by omega)
            case measure => simp [intOf]; omega
          · have HN : Hid (Vote.ok n f = false) := Vote.ok_no (fun q => hq (by have := q.2.1 K hlt; rw [Vote.most_yes hp] at this; exact this))
            have C := Lib.hid (CI.out false (decide_eq_false hq))
            clear hq CI
            go_wp2_with fail
            refine (C.out _).mono ?_; rintro e w' ⟨rfl, rfl⟩
            have := HB.out
            go_wp2
            go_ret
            exact ⟨by rw [HN.out]; rfl, bel⟩
        · by_cases hq : f K = 0
          · have HQ := Lib.hid hq
            rw [hq] at c0
            clear hq
            go_wp2
            go_roundw
            case rel =>
              refine ⟨K + 1, by omega, by go_num, HI.out, HB.out, fun j hj => ?_⟩
              by_cases e : j = K
              · subst e; rw [Vote.most_no hp, HQ.out]; omega
              · exact HA.out j (by omega)
            case measure => simp [intOf]; omega
          · have HN : Hid (Vote.ok n f = false) := Vote.ok_no (fun q => hq (by have := q.2.1 K hlt; rw [Vote.most_no hp] at this; omega))
            have e0 : (f K == 0) = false := by simp [hq]
            clear hq
            have := HB.out
            go_wp2
            go_ret
            exact ⟨by rw [HN.out]; rfl, bel⟩
      · obtain rfl : K = 8 := by omega
        have c8 := (hI.2 8 (by decide)).1
        have c9 := (hI.2 9 (by decide)).1
        have c10 := (hI.2 10 (by decide)).1
        have c11 := (hI.2 11 (by decide)).1
        have hz := hI.1
        have ht : Conf.tm n 2 = 2 * n := Conf.tm_yes HR.out
        have CB := Lib.hid (fun w => refBlock_val n _ ht w)
        have hok : Vote.ok n f = (decide (0 ≤ f 8 ∧ f 8 ≤ n - 1) && decide (0 ≤ f 9 ∧ f 9 ≤ 2 * n + 1) && decide (0 ≤ f 10 ∧ f 10 ≤ 2 * n) && decide (0 ≤ f 11 ∧ f 11 ≤ n - 1)) := by
          rw [Bool.eq_iff_iff]
          simp only [Vote.ok_iff, Bool.and_eq_true, decide_eq_true_eq]
          exact ⟨fun q => ⟨⟨⟨q.2.2.1, q.2.2.2.1⟩, q.2.2.2.2.1⟩, q.2.2.2.2.2⟩, fun q => ⟨h38, hall, q.1.1.1, q.1.1.2, q.1.2, q.2⟩⟩
        have HOK := Lib.hid hok
        clear hok
        generalize g8 : decide (0 ≤ f 8 ∧ f 8 ≤ n - 1) = b8 at HOK
        generalize g9 : decide (0 ≤ f 9 ∧ f 9 ≤ 2 * n + 1) = b9 at HOK
        generalize g10 : decide (0 ≤ f 10 ∧ f 10 ≤ 2 * n) = b10 at HOK
        generalize g11 : decide (0 ≤ f 11 ∧ f 11 ≤ n - 1) = b11 at HOK
        have C8 := Lib.hid (fun w => refIn_val (f 8) (n - 1) b8 g8 w)
        have C9 := Lib.hid (fun w => refIn_val (f 9) (2 * n + 1) b9 g9 w)
        have C10 := Lib.hid (fun w => refIn_val (f 10) (2 * n) b10 g10 w)
        have C11 := Lib.hid (fun w => refIn_val (f 11) (n - 1) b11 g11 w)
        have s1 : IntKind.i64.wrap (n - 1) = n - 1 := IntWalk.i64_in _ (by omega)
        have s2 : IntKind.i64.wrap (2 * n + 1) = 2 * n + 1 := IntWalk.i64_in _ (by omega)
        clear hb hall hI g8 g9 g10 g11 ht h38
        cases b8 <;> cases b9 <;> cases b10 <;> cases b11
        all_goals
          go_wp2_with fail
          go_quiet (first | with_reducible exact Calls.quiet_of_same (C8.out _) | with_reducible exact Calls.quiet_of_same (C9.out _) | with_reducible exact Calls.quiet_of_same (C10.out _) | with_reducible exact Calls.quiet_of_same (C11.out _) | with_reducible exact Calls.quiet_of_same (CB.out _))
          have := HB.out
          go_wp2
          go_ret
          exact ⟨by rw [HOK.out]; rfl, bel⟩
  · have h := Bool.eq_false_iff.2 h
    have HN : Hid (Vote.ok n f = false) := Vote.ok_no (fun q => by have := Conf.right_spec.2 q.1; rw [h] at this; cases this)
    go_enter Try.func14, Try.ntmps14
    go_wp2_with fail
    refine (refCright_any _ _).mono ?_; rintro e w' ⟨rfl, rfl⟩
    rw [h]
    go_wp2
    go_ret
    exact ⟨by rw [HN.out]; rfl, bel⟩
end Go.Proofs.Ytkdmmomfolhfbaa
namespace Go.Proofs.Ytkdmmomfolhfbaa
set_option linter.unusedVariables false
set_option linter.unusedSimpArgs false
open Go.ChangeShapes Go.WideShapes Go.RowKit

/-- A fresh one, when the first 'K' ages are written. -/
def freshK (n : Int) (K j : Nat) : Int := if j < K then n else if j = 9 then 2 * n + 1 else 0
theorem freshK_end (n j : Nat) (h : 3 ≤ n ∧ n ≤ 8) (hj : j < 12) : freshK n n j = Vote.fresh n j := by
  unfold freshK Vote.fresh
  rw [if_pos (Conf.right_spec.2 (by omega))]
  by_cases h1 : j < n
  · rw [if_pos h1, if_pos (by omega), Vote.most_yes (by omega)]
  · rw [if_neg h1]
    by_cases h8 : j < 8
    · rw [if_neg (by omega), if_pos h8, Vote.most_no (by omega)]
    · rw [if_neg h8]
theorem fresh_no {n : Int} (h : Conf.right n = false) (j : Nat) : Vote.fresh n j = 0 := by unfold Vote.fresh; rw [h]; rfl
set_option maxHeartbeats 2000000 in
theorem refVFresh_any (n : Int) (w : World) :
    Calls Try.prog 16 #[.int .i64 n] w fun e w' => e = .returned (.tuple #[.agg #[.int .i64 (Vote.fresh n 0), .int .i64 (Vote.fresh n 1), .int .i64 (Vote.fresh n 2), .int .i64 (Vote.fresh n 3), .int .i64 (Vote.fresh n 4), .int .i64 (Vote.fresh n 5), .int .i64 (Vote.fresh n 6), .int .i64 (Vote.fresh n 7), .int .i64 (Vote.fresh n 8), .int .i64 (Vote.fresh n 9), .int .i64 (Vote.fresh n 10), .int .i64 (Vote.fresh n 11)], .int .i64 (Vote.err n)]) ∧ Below w.heap.size w w' := by
  by_cases h : Conf.right n = true
  · have h38 := Conf.right_spec.1 h
    rw [Vote.err_yes h]
    have ht : Conf.tm n 2 = 2 * n := Conf.tm_yes h
    have CB := Lib.hid (fun w => refBlock_val n _ ht w)
    have HR := Lib.hid h
    clear h ht
    obtain ⟨m, rfl⟩ := Int.eq_ofNat_of_zero_le (show 0 ≤ n by omega)
    have s2 : IntKind.i64.wrap (2 * (m : Int) + 1) = 2 * m + 1 := IntWalk.i64_in _ (by omega)
    have HG := Lib.hid (fun j hj => freshK_end m j (by omega) hj)
    generalize Vote.fresh (m : Int) = g at *
    go_enter Try.func16, Try.ntmps16
    go_wp2_with fail
    refine (refCright_any _ _).mono ?_; rintro e w' ⟨rfl, rfl⟩
    rw [HR.out]
    go_wp2_with fail
    refine (CB.out _).mono ?_; rintro e w' ⟨rfl, rfl⟩
    go_wp2_with fail
    have HI := Lib.hid ((Ints.box (w.alloc (.cells #[.int .i64 ((fun _ => (0 : Int)) 0), .int .i64 ((fun _ => (0 : Int)) 1), .int .i64 ((fun _ => (0 : Int)) 2), .int .i64 ((fun _ => (0 : Int)) 3), .int .i64 ((fun _ => (0 : Int)) 4), .int .i64 ((fun _ => (0 : Int)) 5), .int .i64 ((fun _ => (0 : Int)) 6), .int .i64 ((fun _ => (0 : Int)) 7), .int .i64 ((fun _ => (0 : Int)) 8), .int .i64 ((fun _ => (0 : Int)) 9), .int .i64 ((fun _ => (0 : Int)) 10), .int .i64 ((fun _ => (0 : Int)) 11)] 24)) (freshK m 0) 24))
    have HZ := Lib.hid ((Ints.zeros w 24).alloc (.cells #[.int .i64 (freshK m 0 0), .int .i64 (freshK m 0 1), .int .i64 (freshK m 0 2), .int .i64 (freshK m 0 3), .int .i64 (freshK m 0 4), .int .i64 (freshK m 0 5), .int .i64 (freshK m 0 6), .int .i64 (freshK m 0 7), .int .i64 (freshK m 0 8), .int .i64 (freshK m 0 9), .int .i64 (freshK m 0 10), .int .i64 (freshK m 0 11)] 24))
    go_loopw [5] (fun k wr => ∃ K : Nat, K ≤ m ∧ k = .int .i64 K ∧ Ints wr (w.heap.size + 1) 12 (freshK m K) ∧ Ints wr w.heap.size 12 (fun _ => 0) ∧ Below w.heap.size w wr) (fun k _ => m - (intOf k).toNat)
    case atStart =>
      refine ⟨0, by omega, rfl, ?_, ?_, bel⟩
      · simpa [freshK] using HI.out
      · simpa [freshK] using HZ.out
    case round =>
      clear HI HZ
      obtain ⟨K, hK, rfl, hI, hZ, hb⟩ := hrel
      have HB := Lib.hid hb
      have HI := Lib.hid hI
      have HZ := Lib.hid hZ
      by_cases hlt : K < m
      · have h1 : (K : Int) < m := by omega
        have h0 : (0 : Int) ≤ K := by omega
        have h8 : (K : Int) < 8 := by omega
        obtain ⟨c0, f0⟩ := hI.2 K (by omega)
        clear hb hI hZ
        go_wp2_with fail
        go_roundw
        case rel =>
          have := HB.out
          refine ⟨K + 1, by omega, by go_num, HI.out.set K m (by omega) _ (fun j => ?_), HZ.out.other _ _ _ (by omega), bel⟩
          unfold freshK
          by_cases e : j = K
          · rw [if_pos e, if_pos (by omega)]
          · rw [if_neg e]
            by_cases e2 : j < K
            · rw [if_pos e2, if_pos (by omega)]
            · rw [if_neg e2, if_neg (by omega)]
        case measure => simp [intOf]; omega
      · obtain rfl : K = m := by omega
        have HI := Lib.hid (hI.like HG.out)
        clear hb hI hZ
        have HZ_r := HZ.out.row12; have HZ_c0 := (HZ.out.2 0 (by decide)).1; have HZ_f0 := (HZ.out.2 0 (by decide)).2; have HZ_c1 := (HZ.out.2 1 (by decide)).1; have HZ_f1 := (HZ.out.2 1 (by decide)).2; have HZ_c2 := (HZ.out.2 2 (by decide)).1; have HZ_f2 := (HZ.out.2 2 (by decide)).2; have HZ_c3 := (HZ.out.2 3 (by decide)).1; have HZ_f3 := (HZ.out.2 3 (by decide)).2; have HZ_c4 := (HZ.out.2 4 (by decide)).1; have HZ_f4 := (HZ.out.2 4 (by decide)).2; have HZ_c5 := (HZ.out.2 5 (by decide)).1; have HZ_f5 := (HZ.out.2 5 (by decide)).2; have HZ_c6 := (HZ.out.2 6 (by decide)).1; have HZ_f6 := (HZ.out.2 6 (by decide)).2; have HZ_c7 := (HZ.out.2 7 (by decide)).1; have HZ_f7 := (HZ.out.2 7 (by decide)).2; have HZ_c8 := (HZ.out.2 8 (by decide)).1; have HZ_f8 := (HZ.out.2 8 (by decide)).2; have HZ_c9 := (HZ.out.2 9 (by decide)).1; have HZ_f9 := (HZ.out.2 9 (by decide)).2; have HZ_c10 := (HZ.out.2 10 (by decide)).1; have HZ_f10 := (HZ.out.2 10 (by decide)).2; have HZ_c11 := (HZ.out.2 11 (by decide)).1; have HZ_f11 := (HZ.out.2 11 (by decide)).2; have HZ_z := HZ.out.1
        have HI_c0 := (HI.out.2 0 (by decide)).1; have HI_c1 := (HI.out.2 1 (by decide)).1; have HI_c2 := (HI.out.2 2 (by decide)).1; have HI_c3 := (HI.out.2 3 (by decide)).1; have HI_c4 := (HI.out.2 4 (by decide)).1; have HI_c5 := (HI.out.2 5 (by decide)).1; have HI_c6 := (HI.out.2 6 (by decide)).1; have HI_c7 := (HI.out.2 7 (by decide)).1; have HI_c8 := (HI.out.2 8 (by decide)).1; have HI_c9 := (HI.out.2 9 (by decide)).1; have HI_c10 := (HI.out.2 10 (by decide)).1; have HI_c11 := (HI.out.2 11 (by decide)).1; have HI_z := HI.out.1
        have := HB.out
        go_wp2
        refine bodyPost_ret (ret_cell_tmp Try.results16 (w.heap.size) [.int .i64 ((g) 0), .int .i64 ((g) 1), .int .i64 ((g) 2), .int .i64 ((g) 3), .int .i64 ((g) 4), .int .i64 ((g) 5), .int .i64 ((g) 6), .int .i64 ((g) 7), .int .i64 ((g) 8), .int .i64 ((g) 9), .int .i64 ((g) 10), .int .i64 ((g) 11)] _ rfl rng Try.underlying24 rfl (by kernel_rfl)) rfl ⟨rfl, ?_⟩; exact bel
  · have h := Bool.eq_false_iff.2 h
    rw [Vote.err_no h]
    simp only [fresh_no h]
    go_enter Try.func16, Try.ntmps16
    go_wp2_with fail
    refine (refCright_any _ _).mono ?_; rintro e w' ⟨rfl, rfl⟩
    rw [h]
    go_wp2
    refine bodyPost_ret (ret_cell_tmp Try.results16 (w.heap.size) [.int .i64 ((fun _ => 0) 0), .int .i64 ((fun _ => 0) 1), .int .i64 ((fun _ => 0) 2), .int .i64 ((fun _ => 0) 3), .int .i64 ((fun _ => 0) 4), .int .i64 ((fun _ => 0) 5), .int .i64 ((fun _ => 0) 6), .int .i64 ((fun _ => 0) 7), .int .i64 ((fun _ => 0) 8), .int .i64 ((fun _ => 0) 9), .int .i64 ((fun _ => 0) 10), .int .i64 ((fun _ => 0) 11)] _ rfl rng Try.underlying24 rfl (by kernel_rfl)) rfl ⟨rfl, ?_⟩; exact bel
end Go.Proofs.Ytkdmmomfolhfbaa
namespace Go.Proofs.Ytkdmmomfolhfbaa
set_option linter.unusedVariables false
set_option linter.unusedSimpArgs false
open Go.ChangeShapes Go.WideShapes Go.RowKit

theorem Calls.back {P : Program} {f : FuncId} {args : Array Value} {w : World} {v : Value} (h : Calls P f args w fun e w' => e = .returned v ∧ w = w') : Calls P f args w fun e w' => e = .returned v ∧ w' = w :=
  h.mono fun _ _ ⟨h1, h2⟩ => ⟨h1, h2.symm⟩
/-- One made right, when the first 'K' ages are. -/
def cleanK (n : Int) (f : Nat → Int) (K j : Nat) : Int := if j < K then Tally.clamp (f j) 0 (Vote.most n j) else f j
theorem cleanK_at (n : Int) (f : Nat → Int) (K : Nat) : cleanK n f K K = f K := if_neg (by omega)
theorem cleanK_next (n : Int) (f : Nat → Int) (K j : Nat) : cleanK n f (K + 1) j = if j = K then Tally.clamp (f K) 0 (Vote.most n K) else cleanK n f K j := by
  unfold cleanK
  by_cases e : j = K
  · subst e; rw [if_pos (by omega), if_pos rfl]
  · rw [if_neg e]
    by_cases e2 : j < K
    · rw [if_pos e2, if_pos (by omega)]
    · rw [if_neg e2, if_neg (by omega)]
theorem clean_yes {n : Int} {f : Nat → Int} (h : Conf.right n = true) (j : Nat) (hj : j < 12) : Vote.clean n f j = (if j = 11 then f 11 % n else if j = 10 then Tally.clamp (f 10) 0 (2 * n) else if j = 9 then Tally.clamp (f 9) 0 (2 * n + 1) else if j = 8 then f 8 % n else cleanK n f 8 j) := by
  unfold Vote.clean cleanK
  rw [if_pos h]
  rcases twelve hj with rfl | rfl | rfl | rfl | rfl | rfl | rfl | rfl | rfl | rfl | rfl | rfl <;> rfl
theorem clean_no {n : Int} {f : Nat → Int} (h : Conf.right n = false) (j : Nat) : Vote.clean n f j = 0 := by unfold Vote.clean; rw [h]; rfl
end Go.Proofs.Ytkdmmomfolhfbaa
namespace Go.Proofs.Ytkdmmomfolhfbaa
set_option linter.unusedVariables false
set_option linter.unusedSimpArgs false
open Go.ChangeShapes Go.WideShapes Go.RowKit

/-- A tick later, when the first 'K' ages are. -/
def tickK (n : Int) (f : Nat → Int) (K j : Nat) : Int := if j < K then Tally.up (f j) n else f j
theorem tickK_at (n : Int) (f : Nat → Int) (K : Nat) : tickK n f K K = f K := if_neg (by omega)
theorem tickK_next (n : Int) (f : Nat → Int) (K j : Nat) : tickK n f (K + 1) j = if j = K then Tally.up (f K) n else tickK n f K j := by
  unfold tickK
  by_cases e : j = K
  · subst e; rw [if_pos (by omega), if_pos rfl]
  · rw [if_neg e]
    by_cases e2 : j < K
    · rw [if_pos e2, if_pos (by omega)]
    · rw [if_neg e2, if_neg (by omega)]
theorem tick_yes {m : Nat} {f : Nat → Int} (h : Vote.ok m f = true) (j : Nat) (hj : j < 12) : Vote.tick m f j = (if j = 11 then (f 11 + 1) % m else if j = 10 then Tally.down (f 10) else if j = 9 then Tally.up (f 9) (2 * m + 1) else tickK m f m j) := by
  have h38 := (Vote.ok_iff.1 h).1
  unfold Vote.tick tickK
  rw [if_pos h]
  by_cases h8 : j < 8
  · rw [if_pos h8]
    simp only [if_neg (show ¬ j = 11 by omega), if_neg (show ¬ j = 10 by omega), if_neg (show ¬ j = 9 by omega)]
    by_cases hm : j < m
    · rw [if_pos hm, if_pos (show (j : Int) < m by omega)]
    · rw [if_neg hm, if_neg (show ¬ (j : Int) < m by omega)]
  · rw [if_neg h8]
    have h4 : j = 8 ∨ j = 9 ∨ j = 10 ∨ j = 11 := by omega
    rcases h4 with rfl | rfl | rfl | rfl
    · simp only [if_neg (show ¬ (8 : Nat) = 11 by omega), if_neg (show ¬ (8 : Nat) = 10 by omega), if_neg (show ¬ (8 : Nat) = 9 by omega), if_neg (show ¬ 8 < m by omega), if_true]
    · rfl
    · rfl
    · rfl
theorem tick_no {n : Int} {f : Nat → Int} (h : Vote.ok n f = false) (j : Nat) : Vote.tick n f j = 0 := by unfold Vote.tick; rw [h]; rfl
theorem tickErr_yes {n : Int} {f : Nat → Int} (h : Vote.ok n f = true) : Vote.tickErr n f = 0 := if_pos h
theorem tickErr_no {n : Int} {f : Nat → Int} (h : Vote.ok n f = false) : Vote.tickErr n f = 1 := by unfold Vote.tickErr; rw [h]; rfl
set_option maxHeartbeats 4000000 in
theorem refVTick_any (n : Int) (f : Nat → Int) (w : World) :
    Calls Try.prog 22 #[.int .i64 n, .agg #[.int .i64 (f 0), .int .i64 (f 1), .int .i64 (f 2), .int .i64 (f 3), .int .i64 (f 4), .int .i64 (f 5), .int .i64 (f 6), .int .i64 (f 7), .int .i64 (f 8), .int .i64 (f 9), .int .i64 (f 10), .int .i64 (f 11)]] w fun e w' => e = .returned (.tuple #[.agg #[.int .i64 (Vote.tick n f 0), .int .i64 (Vote.tick n f 1), .int .i64 (Vote.tick n f 2), .int .i64 (Vote.tick n f 3), .int .i64 (Vote.tick n f 4), .int .i64 (Vote.tick n f 5), .int .i64 (Vote.tick n f 6), .int .i64 (Vote.tick n f 7), .int .i64 (Vote.tick n f 8), .int .i64 (Vote.tick n f 9), .int .i64 (Vote.tick n f 10), .int .i64 (Vote.tick n f 11)], .int .i64 (Vote.tickErr n f)]) ∧ Below w.heap.size w w' := by
  by_cases h : Vote.ok n f = true
  · have hok := Vote.ok_iff.1 h
    have h38 := hok.1
    rw [tickErr_yes h]
    have ht : Conf.tm n 2 = 2 * n := Conf.tm_yes (Conf.right_spec.2 h38)
    have CB := Lib.hid (fun w => refBlock_val n _ ht w)
    have HR := Lib.hid h
    have HOK := Lib.hid hok
    clear ht
    obtain ⟨m, rfl⟩ := Int.eq_ofNat_of_zero_le (show 0 ≤ n by omega)
    have HG := Lib.hid (fun j hj => tick_yes (f := f) h j hj)
    generalize Vote.tick (m : Int) f = g at *
    clear h hok
    have s2 : IntKind.i64.wrap (2 * (m : Int) + 1) = 2 * m + 1 := IntWalk.i64_in _ (by omega)
    go_enter Try.func22, Try.ntmps22
    go_wp2_with fail
    refine (refVRight_any m f _).mono ?_
    rintro e w1 ⟨rfl, hb⟩
    rw [HR.out]
    have hz := hb.size
    (try simp only [World.size_alloc, World.heap_drewN, World.size_drew, World.size_setCell] at hz)
    have HB1 := Lib.hid (show Below w.heap.size w w1 from bel)
    have HI := Lib.hid (((Ints.box w (tickK m f 0) 24).alloc (.cells #[.int .i64 ((fun _ => (0 : Int)) 0), .int .i64 ((fun _ => (0 : Int)) 1), .int .i64 ((fun _ => (0 : Int)) 2), .int .i64 ((fun _ => (0 : Int)) 3), .int .i64 ((fun _ => (0 : Int)) 4), .int .i64 ((fun _ => (0 : Int)) 5), .int .i64 ((fun _ => (0 : Int)) 6), .int .i64 ((fun _ => (0 : Int)) 7), .int .i64 ((fun _ => (0 : Int)) 8), .int .i64 ((fun _ => (0 : Int)) 9), .int .i64 ((fun _ => (0 : Int)) 10), .int .i64 ((fun _ => (0 : Int)) 11)] 24)).below (show Below _ _ w1 from by simpa [tickK] using hb))
    have HZ := Lib.hid ((Ints.zeros (w.alloc (.cells #[.int .i64 (tickK m f 0 0), .int .i64 (tickK m f 0 1), .int .i64 (tickK m f 0 2), .int .i64 (tickK m f 0 3), .int .i64 (tickK m f 0 4), .int .i64 (tickK m f 0 5), .int .i64 (tickK m f 0 6), .int .i64 (tickK m f 0 7), .int .i64 (tickK m f 0 8), .int .i64 (tickK m f 0 9), .int .i64 (tickK m f 0 10), .int .i64 (tickK m f 0 11)] 24)) 24).below (show Below _ _ w1 from by simpa [tickK] using hb))
    clear hb
    go_wp2_with fail
    go_loopw [6] (fun k wr => ∃ K : Nat, K ≤ m ∧ k = .int .i64 K ∧ Ints wr w.heap.size 12 (tickK m f K) ∧ Ints wr (w.heap.size + 1) 12 (fun _ => 0) ∧ Below w.heap.size w wr) (fun k _ => m - (intOf k).toNat)
    case atStart =>
      have := HB1.out
      refine ⟨0, by omega, rfl, HI.out, ?_, bel⟩
      simpa using HZ.out
    case round =>
      clear HI HZ HB1
      obtain ⟨K, hK, rfl, hI, hZ, hb⟩ := hrel
      have HB := Lib.hid hb
      have HI := Lib.hid hI
      have HZ := Lib.hid hZ
      by_cases hlt : K < m
      · have h1 : (K : Int) < m := by omega
        have h8 : (K : Int) < 8 := by omega
        have h0 : (0 : Int) ≤ K := by omega
        obtain ⟨c0, f0⟩ := hI.2 K (by omega)
        rw [tickK_at] at c0
        have HN := Lib.hid (tickK_next m f K)
        have hK2 := HOK.out.2.1 K (by omega)
        rw [Vote.most_yes h1] at hK2
        have CU := Lib.hid (fun w => refUp_any (f K) m (by omega) (by omega) w)
        generalize Tally.up (f K) m = x at *
        clear hb hI hZ hK2
        go_wp2_with fail
        refine (CU.out _).mono ?_; rintro e w' ⟨rfl, rfl⟩
        go_wp2
        go_roundw
        case rel =>
          have := HB.out
          exact ⟨K + 1, by omega, by go_num, HI.out.set K x (by omega) _ HN.out, HZ.out.other _ _ _ (by omega), bel⟩
        case measure => simp [intOf]; omega
      · obtain rfl : K = m := by omega
        obtain ⟨-, -, k8, k9, k10, k11⟩ := HOK.out
        have CU := Lib.hid (fun w => refUp_any (f 9) (2 * K + 1) (by omega) (by omega) w)
        have CD := Lib.hid (fun w => refDown_any (f 10) (by omega) w)
        have CN := Lib.hid (fun w => refNext_any K (f 11) (by omega) (by omega) (by omega) (by omega) w)
        clear hb k8 k9 k10 k11
        generalize hq : tickK K f K = q at *
        have HQ : Hid (q = tickK K f K) := hq.symm
        clear hq
        have E9 : q 9 = f 9 := by rw [HQ.out]; exact if_neg (by omega)
        have E10 : q 10 = f 10 := by rw [HQ.out]; exact if_neg (by omega)
        have E11 : q 11 = f 11 := by rw [HQ.out]; exact if_neg (by omega)
        generalize (f 11 + 1) % (K : Int) = x11 at *
        generalize Tally.up (f 9) (2 * K + 1) = x9 at *
        generalize Tally.down (f 10) = x10 at *
        obtain ⟨c9, f9⟩ := hI.2 9 (by decide)
        obtain ⟨c10, f10⟩ := hI.2 10 (by decide)
        obtain ⟨c11, f11⟩ := hI.2 11 (by decide)
        rw [E9] at c9
        rw [E10] at c10
        rw [E11] at c11
        have hz := hI.1
        clear hI hZ E9 E10 E11
        go_upto_region 7 with fail
        go_still_tail 7, (by kernel_rfl)
        still_call (CB.out _)
        repeat still_step
        still_call (Calls.back (CU.out _))
        repeat still_step
        refine wpStill_nil ?_
        change wpList _ _ _ _ _ wr.drew
        go_wp2_with fail
        refine (CD.out _).mono ?_; rintro e w' ⟨rfl, rfl⟩
        go_wp2_with fail
        refine (CN.out _).mono ?_; rintro e w' ⟨rfl, rfl⟩
        go_upto_region 10 with fail
        generalize hw2 : World.drew _ = w2
        have HI2 := Lib.hid (show Ints w2 w.heap.size 12 g from by
          rw [← hw2]
          refine (((HI.out.set 9 x9 (by omega) _ (fun j => rfl)).set 10 x10 (by omega) _ (fun j => rfl)).set 11 x11 (by omega) (fun j => if j = 11 then x11 else if j = 10 then x10 else if j = 9 then x9 else q j) (fun j => rfl)).like (fun j hj => ?_)
          rw [HG.out j hj])
        have HZ2 := Lib.hid (show Ints w2 (w.heap.size + 1) 12 (fun _ => 0) from by rw [← hw2]; exact ((HZ.out.other _ _ _ (by omega)).other _ _ _ (by omega)).other _ _ _ (by omega))
        have HB2 := Lib.hid (show Below w.heap.size w w2 from by have := HB.out; rw [← hw2]; exact bel)
        clear hw2 c9 f9 c10 f10 c11 f11 HI HZ HB
        have HI2_c0 := (HI2.out.2 0 (by decide)).1; have HI2_c1 := (HI2.out.2 1 (by decide)).1; have HI2_c2 := (HI2.out.2 2 (by decide)).1; have HI2_c3 := (HI2.out.2 3 (by decide)).1; have HI2_c4 := (HI2.out.2 4 (by decide)).1; have HI2_c5 := (HI2.out.2 5 (by decide)).1; have HI2_c6 := (HI2.out.2 6 (by decide)).1; have HI2_c7 := (HI2.out.2 7 (by decide)).1; have HI2_c8 := (HI2.out.2 8 (by decide)).1; have HI2_c9 := (HI2.out.2 9 (by decide)).1; have HI2_c10 := (HI2.out.2 10 (by decide)).1; have HI2_c11 := (HI2.out.2 11 (by decide)).1; have HI2_z := HI2.out.1
        have HZ2_r := HZ2.out.row12; have HZ2_c0 := (HZ2.out.2 0 (by decide)).1; have HZ2_f0 := (HZ2.out.2 0 (by decide)).2; have HZ2_c1 := (HZ2.out.2 1 (by decide)).1; have HZ2_f1 := (HZ2.out.2 1 (by decide)).2; have HZ2_c2 := (HZ2.out.2 2 (by decide)).1; have HZ2_f2 := (HZ2.out.2 2 (by decide)).2; have HZ2_c3 := (HZ2.out.2 3 (by decide)).1; have HZ2_f3 := (HZ2.out.2 3 (by decide)).2; have HZ2_c4 := (HZ2.out.2 4 (by decide)).1; have HZ2_f4 := (HZ2.out.2 4 (by decide)).2; have HZ2_c5 := (HZ2.out.2 5 (by decide)).1; have HZ2_f5 := (HZ2.out.2 5 (by decide)).2; have HZ2_c6 := (HZ2.out.2 6 (by decide)).1; have HZ2_f6 := (HZ2.out.2 6 (by decide)).2; have HZ2_c7 := (HZ2.out.2 7 (by decide)).1; have HZ2_f7 := (HZ2.out.2 7 (by decide)).2; have HZ2_c8 := (HZ2.out.2 8 (by decide)).1; have HZ2_f8 := (HZ2.out.2 8 (by decide)).2; have HZ2_c9 := (HZ2.out.2 9 (by decide)).1; have HZ2_f9 := (HZ2.out.2 9 (by decide)).2; have HZ2_c10 := (HZ2.out.2 10 (by decide)).1; have HZ2_f10 := (HZ2.out.2 10 (by decide)).2; have HZ2_c11 := (HZ2.out.2 11 (by decide)).1; have HZ2_f11 := (HZ2.out.2 11 (by decide)).2; have HZ2_z := HZ2.out.1
        have := HB2.out
        go_wp2
        refine bodyPost_ret (ret_cell_tmp Try.results22 (w.heap.size + 1) [.int .i64 ((g) 0), .int .i64 ((g) 1), .int .i64 ((g) 2), .int .i64 ((g) 3), .int .i64 ((g) 4), .int .i64 ((g) 5), .int .i64 ((g) 6), .int .i64 ((g) 7), .int .i64 ((g) 8), .int .i64 ((g) 9), .int .i64 ((g) 10), .int .i64 ((g) 11)] _ rfl rng Try.underlying24 rfl (by kernel_rfl)) rfl ⟨rfl, ?_⟩; exact bel
  · have h := Bool.eq_false_iff.2 h
    rw [tickErr_no h]
    simp only [tick_no h]
    go_enter Try.func22, Try.ntmps22
    go_wp2_with fail
    refine (refVRight_any n f _).mono ?_
    rintro e w1 ⟨rfl, hb⟩
    rw [h]
    have hz := hb.size
    (try simp only [World.size_alloc, World.heap_drewN, World.size_drew, World.size_setCell] at hz)
    have HB1 := Lib.hid (show Below w.heap.size w w1 from bel)
    have HZ := Lib.hid ((Ints.zeros (w.alloc (.cells #[.int .i64 (f 0), .int .i64 (f 1), .int .i64 (f 2), .int .i64 (f 3), .int .i64 (f 4), .int .i64 (f 5), .int .i64 (f 6), .int .i64 (f 7), .int .i64 (f 8), .int .i64 (f 9), .int .i64 (f 10), .int .i64 (f 11)] 24)) 24).below hb)
    rw [World.size_alloc] at HZ
    clear hb
    have HZ_r := HZ.out.row12; have HZ_c0 := (HZ.out.2 0 (by decide)).1; have HZ_f0 := (HZ.out.2 0 (by decide)).2; have HZ_c1 := (HZ.out.2 1 (by decide)).1; have HZ_f1 := (HZ.out.2 1 (by decide)).2; have HZ_c2 := (HZ.out.2 2 (by decide)).1; have HZ_f2 := (HZ.out.2 2 (by decide)).2; have HZ_c3 := (HZ.out.2 3 (by decide)).1; have HZ_f3 := (HZ.out.2 3 (by decide)).2; have HZ_c4 := (HZ.out.2 4 (by decide)).1; have HZ_f4 := (HZ.out.2 4 (by decide)).2; have HZ_c5 := (HZ.out.2 5 (by decide)).1; have HZ_f5 := (HZ.out.2 5 (by decide)).2; have HZ_c6 := (HZ.out.2 6 (by decide)).1; have HZ_f6 := (HZ.out.2 6 (by decide)).2; have HZ_c7 := (HZ.out.2 7 (by decide)).1; have HZ_f7 := (HZ.out.2 7 (by decide)).2; have HZ_c8 := (HZ.out.2 8 (by decide)).1; have HZ_f8 := (HZ.out.2 8 (by decide)).2; have HZ_c9 := (HZ.out.2 9 (by decide)).1; have HZ_f9 := (HZ.out.2 9 (by decide)).2; have HZ_c10 := (HZ.out.2 10 (by decide)).1; have HZ_f10 := (HZ.out.2 10 (by decide)).2; have HZ_c11 := (HZ.out.2 11 (by decide)).1; have HZ_f11 := (HZ.out.2 11 (by decide)).2; have HZ_z := HZ.out.1
    have := HB1.out
    go_wp2
    refine bodyPost_ret (ret_cell_tmp Try.results22 (w.heap.size + 1) [.int .i64 ((fun _ => 0) 0), .int .i64 ((fun _ => 0) 1), .int .i64 ((fun _ => 0) 2), .int .i64 ((fun _ => 0) 3), .int .i64 ((fun _ => 0) 4), .int .i64 ((fun _ => 0) 5), .int .i64 ((fun _ => 0) 6), .int .i64 ((fun _ => 0) 7), .int .i64 ((fun _ => 0) 8), .int .i64 ((fun _ => 0) 9), .int .i64 ((fun _ => 0) 10), .int .i64 ((fun _ => 0) 11)] _ rfl rng Try.underlying24 rfl (by kernel_rfl)) rfl ⟨rfl, ?_⟩; exact bel
end Go.Proofs.Ytkdmmomfolhfbaa
namespace Go.Proofs.Ytkdmmomfolhfbaa
set_option linter.unusedVariables false
set_option linter.unusedSimpArgs false
open Go.ChangeShapes Go.WideShapes Go.RowKit

theorem refAt_val (n p a x : Int) (h : (p + a) % n = x) (h1 : 1 ≤ n) (h2 : n ≤ 1000000) (p0 : 0 ≤ p) (p1 : p < n) (a0 : 0 ≤ a) (a1 : a ≤ 1099511627776) (w : World) :
    Calls Try.prog 61 #[.int .i64 n, .int .i64 p, .int .i64 a] w fun e w' => e = .returned (.int .i64 x) ∧ w = w' := by
  rw [← h]
  exact refAt_any n p a h1 h2 p0 p1 a0 a1 w
set_option maxHeartbeats 2000000 in
theorem refVt_any (m : Nat) (f : Nat → Int) (p : Nat) (v : Int) (w : World) (h : Vote.Ok m f) (hp : p < m) :
    Calls Try.prog 56 #[.int .i64 m, .agg #[.int .i64 (f 0), .int .i64 (f 1), .int .i64 (f 2), .int .i64 (f 3), .int .i64 (f 4), .int .i64 (f 5), .int .i64 (f 6), .int .i64 (f 7), .int .i64 (f 8), .int .i64 (f 9), .int .i64 (f 10), .int .i64 (f 11)], .int .i64 p, .int .i64 v] w fun e w' => e = .returned (.bool (Vote.vt m f v p)) ∧ Below w.heap.size w w' := by
  obtain ⟨h38, hA, -, k9, -, -⟩ := h
  have hap := hA p (by omega)
  rw [Vote.most_yes (by omega)] at hap
  have ht : Conf.tm m 2 = 2 * m := Conf.tm_yes (Conf.right_spec.2 h38)
  have CB := Lib.hid (fun w => refBlock_val m _ ht w)
  have HV : Hid (Vote.vt m f v p = ((decide (f p < m) && (((p : Int) + f p) % m == v)) || (((p : Int) == f 8) && decide (f 9 < 2 * m) && (((p : Int) + f 9) % m == v)))) := rfl
  generalize hx : ((p : Int) + f p) % (m : Int) = x at *
  generalize hy : ((p : Int) + f 9) % (m : Int) = y at *
  have CX := Lib.hid (fun w => refAt_val m p (f p) x hx (by omega) (by omega) (by omega) (by omega) (by omega) (by omega) w)
  have CY := Lib.hid (fun w => refAt_val m p (f 9) y hy (by omega) (by omega) (by omega) (by omega) (by omega) (by omega) w)
  have h1 : (p : Int) < m := by omega
  have h8 : (p : Int) < 8 := by omega
  have h0 : (0 : Int) ≤ p := by omega
  generalize Vote.vt m f v p = r at *
  clear hA ht hx hy k9
  go_enter Try.func56, Try.ntmps56
  go_upto_region 1 with fail
  have HI := Lib.hid (Ints.box w f 24)
  have HB := Lib.hid (show Below w.heap.size w (w.alloc (.cells #[.int .i64 (f 0), .int .i64 (f 1), .int .i64 (f 2), .int .i64 (f 3), .int .i64 (f 4), .int .i64 (f 5), .int .i64 (f 6), .int .i64 (f 7), .int .i64 (f 8), .int .i64 (f 9), .int .i64 (f 10), .int .i64 (f 11)] 24)) from bel)
  generalize w.alloc _ = w1 at *
  have cp := (HI.out.2 p (by omega)).1
  have c8 := (HI.out.2 8 (by decide)).1
  have c9 := (HI.out.2 9 (by decide)).1
  have hz := HI.out.1
  cases q2 : (x == v)
  all_goals
    cases q3 : ((p : Int) == f 8)
    all_goals
      cases q4 : (decide (f 9 < 2 * (m : Int)))
      all_goals
        cases q5 : (y == v)
        all_goals
          by_cases q1 : f p < (m : Int)
          · go_wp2_with fail
            refine (CX.out _).mono ?_; rintro e w' ⟨rfl, rfl⟩
            go_wp2_with fail
            go_quiet (first | with_reducible exact Calls.quiet_of_same (CB.out _) | with_reducible exact Calls.quiet_of_same (Calls.back (CY.out _)))
            have := HB.out
            go_wp2
            go_ret
            exact ⟨by rw [HV.out]; simp [q1, q2, q3, q4, q5], bel⟩
          · go_wp2_with fail
            go_quiet (first | with_reducible exact Calls.quiet_of_same (CB.out _) | with_reducible exact Calls.quiet_of_same (Calls.back (CY.out _)))
            have := HB.out
            go_wp2
            go_ret
            exact ⟨by rw [HV.out]; simp [q1, q2, q3, q4, q5], bel⟩
end Go.Proofs.Ytkdmmomfolhfbaa
namespace Go.Proofs.Ytkdmmomfolhfbaa
set_option linter.unusedVariables false
set_option linter.unusedSimpArgs false
open Go.ChangeShapes Go.WideShapes Go.RowKit

theorem votes_yes {m : Nat} {f : Nat → Int} (h : Vote.ok m f = true) (v : Int) : Vote.votes m f v = Vote.cnt m f v m := by unfold Vote.votes; rw [if_pos h]; rfl
theorem votes_no {n : Int} {f : Nat → Int} (h : Vote.ok n f = false) (v : Int) : Vote.votes n f v = 0 := by unfold Vote.votes; rw [h]; rfl
theorem cnt_next (n : Int) (f : Nat → Int) (v : Int) (K : Nat) : Vote.cnt n f v (K + 1) = Vote.cnt n f v K + (if Vote.vt n f v K = true then 1 else 0) := rfl
set_option maxHeartbeats 2000000 in
theorem refVVotes_any (n : Int) (f : Nat → Int) (v : Int) (w : World) :
    Calls Try.prog 46 #[.int .i64 n, .agg #[.int .i64 (f 0), .int .i64 (f 1), .int .i64 (f 2), .int .i64 (f 3), .int .i64 (f 4), .int .i64 (f 5), .int .i64 (f 6), .int .i64 (f 7), .int .i64 (f 8), .int .i64 (f 9), .int .i64 (f 10), .int .i64 (f 11)], .int .i64 v] w fun e w' => e = .returned (.int .i64 (Vote.votes n f v : Nat)) ∧ Below w.heap.size w w' := by
  by_cases h : Vote.ok n f = true
  · have hok := Vote.ok_iff.1 h
    have h38 := hok.1
    obtain ⟨m, rfl⟩ := Int.eq_ofNat_of_zero_le (show 0 ≤ n by omega)
    have HV := Lib.hid (votes_yes h v)
    generalize Vote.votes (m : Int) f v = r at *
    have HR := Lib.hid h
    have HOK := Lib.hid hok
    clear h hok
    go_enter Try.func46, Try.ntmps46
    go_wp2_with fail
    have HI := Lib.hid (Ints.box w f 24)
    go_loopw [7, 8] (fun q k wr => ∃ K : Nat, K ≤ m ∧ k = .int .i64 K ∧ q = .int .i64 (Vote.cnt m f v K : Nat) ∧ Ints wr w.heap.size 12 f ∧ Below w.heap.size w wr) (fun _ k _ => m - (intOf k).toNat)
    case atStart => exact ⟨0, by omega, rfl, rfl, HI.out, bel⟩
    case round =>
      clear HI
      obtain ⟨K, hK, rfl, rfl, hI, hb⟩ := hrel
      have HB := Lib.hid hb
      have HI := Lib.hid hI
      clear hb hI
      have HI_c0 := (HI.out.2 0 (by decide)).1; have HI_c1 := (HI.out.2 1 (by decide)).1; have HI_c2 := (HI.out.2 2 (by decide)).1; have HI_c3 := (HI.out.2 3 (by decide)).1; have HI_c4 := (HI.out.2 4 (by decide)).1; have HI_c5 := (HI.out.2 5 (by decide)).1; have HI_c6 := (HI.out.2 6 (by decide)).1; have HI_c7 := (HI.out.2 7 (by decide)).1; have HI_c8 := (HI.out.2 8 (by decide)).1; have HI_c9 := (HI.out.2 9 (by decide)).1; have HI_c10 := (HI.out.2 10 (by decide)).1; have HI_c11 := (HI.out.2 11 (by decide)).1; have HI_z := HI.out.1
      go_wp2_with fail
      refine (refVRight_any m f _).mono ?_
      rintro e w1 ⟨rfl, hb⟩
      rw [HR.out]
      have hz := hb.size
      (try simp only [World.size_alloc, World.heap_drewN, World.size_drew, World.size_setCell] at hz)
      have HB1 := Lib.hid (show Below w.heap.size w w1 from by have := HB.out; exact bel)
      have HI1 := Lib.hid (HI.out.below hb)
      clear hb HI HB HI_c0 HI_c1 HI_c2 HI_c3 HI_c4 HI_c5 HI_c6 HI_c7 HI_c8 HI_c9 HI_c10 HI_c11 HI_z
      have HI1_c0 := (HI1.out.2 0 (by decide)).1; have HI1_c1 := (HI1.out.2 1 (by decide)).1; have HI1_c2 := (HI1.out.2 2 (by decide)).1; have HI1_c3 := (HI1.out.2 3 (by decide)).1; have HI1_c4 := (HI1.out.2 4 (by decide)).1; have HI1_c5 := (HI1.out.2 5 (by decide)).1; have HI1_c6 := (HI1.out.2 6 (by decide)).1; have HI1_c7 := (HI1.out.2 7 (by decide)).1; have HI1_c8 := (HI1.out.2 8 (by decide)).1; have HI1_c9 := (HI1.out.2 9 (by decide)).1; have HI1_c10 := (HI1.out.2 10 (by decide)).1; have HI1_c11 := (HI1.out.2 11 (by decide)).1; have HI1_z := HI1.out.1
      by_cases hlt : K < m
      · have h1 : (K : Int) < m := by omega
        have h0 : (0 : Int) ≤ K := by omega
        have HN := Lib.hid (cnt_next m f v K)
        have hc := Vote.cnt_le m f v K
        have CV := Lib.hid (fun w => refVt_any m f K v w HOK.out hlt)
        generalize Vote.vt m f v K = b at *
        go_wp2_with fail
        refine (CV.out _).mono ?_
        rintro e w2 ⟨rfl, hb⟩
        have HB2 := Lib.hid (show Below w.heap.size w w2 from by have := HB1.out; exact bel)
        have HI2 := Lib.hid (HI1.out.below hb)
        clear hb
        cases b
        · go_wp2
          go_roundw
          case rel => exact ⟨K + 1, by omega, by go_num, by rw [HN.out]; rfl, HI2.out, HB2.out⟩
          case measure => simp [intOf]; omega
        · go_wp2
          go_roundw
          case rel => exact ⟨K + 1, by omega, by go_num, by rw [HN.out]; simp, HI2.out, HB2.out⟩
          case measure => simp [intOf]; omega
      · obtain rfl : K = m := by omega
        have := HB1.out
        go_wp2
        go_ret
        exact ⟨by rw [HV.out]; rfl, bel⟩
  · have h := Bool.eq_false_iff.2 h
    rw [votes_no h]
    go_enter Try.func46, Try.ntmps46
    go_wp2_with fail
    refine wp_loop_rounds 1 ?_
    rw [rounds_succ]
    go_wp2_with fail
    refine (refVRight_any n f _).mono ?_
    rintro e w1 ⟨rfl, hb⟩
    rw [h]
    go_wp2
    go_ret
    exact ⟨rfl, bel⟩
end Go.Proofs.Ytkdmmomfolhfbaa
namespace Go.Proofs.Ytkdmmomfolhfbaa
set_option linter.unusedVariables false
set_option linter.unusedSimpArgs false
open Go.ChangeShapes Go.WideShapes Go.RowKit

theorem bestK_next (n : Int) (f : Nat → Int) (K : Nat) : Vote.bestK n f (K + 1) = if Vote.votes n f (Vote.bestK n f K : Nat) < Vote.votes n f (K : Nat) then K else Vote.bestK n f K := rfl
theorem best_yes {m : Nat} {f : Nat → Int} (h : Vote.ok m f = true) : Vote.best m f = Vote.bestK m f m ∧ Vote.bestVotes m f = Vote.votes m f (Vote.bestK m f m : Nat) := by
  unfold Vote.bestVotes Vote.best
  rw [if_pos h, if_pos h]
  exact ⟨rfl, rfl⟩
theorem best_no {n : Int} {f : Nat → Int} (h : Vote.ok n f = false) : Vote.best n f = 0 ∧ Vote.bestVotes n f = 0 := by
  unfold Vote.bestVotes Vote.best
  rw [h]
  exact ⟨rfl, rfl⟩
set_option maxHeartbeats 2000000 in
theorem refVBest_any (n : Int) (f : Nat → Int) (w : World) :
    Calls Try.prog 45 #[.int .i64 n, .agg #[.int .i64 (f 0), .int .i64 (f 1), .int .i64 (f 2), .int .i64 (f 3), .int .i64 (f 4), .int .i64 (f 5), .int .i64 (f 6), .int .i64 (f 7), .int .i64 (f 8), .int .i64 (f 9), .int .i64 (f 10), .int .i64 (f 11)]] w fun e w' => e = .returned (.tuple #[.int .i64 (Vote.best n f : Nat), .int .i64 (Vote.bestVotes n f : Nat)]) ∧ Below w.heap.size w w' := by
  by_cases h : Vote.ok n f = true
  · have hok := Vote.ok_iff.1 h
    have h38 := hok.1
    obtain ⟨m, rfl⟩ := Int.eq_ofNat_of_zero_le (show 0 ≤ n by omega)
    rw [(best_yes h).1, (best_yes h).2]
    have HR := Lib.hid h
    clear h hok
    go_enter Try.func45, Try.ntmps45
    go_wp2_with fail
    have HI := Lib.hid (Ints.box w f 24)
    go_loopw [6, 7] (fun q k wr => ∃ K : Nat, K ≤ m ∧ k = .int .i64 K ∧ q = .int .i64 (Vote.bestK m f K : Nat) ∧ Ints wr w.heap.size 12 f ∧ Below w.heap.size w wr) (fun _ k _ => m - (intOf k).toNat)
    case atStart => exact ⟨0, by omega, rfl, rfl, HI.out, bel⟩
    case round =>
      clear HI
      obtain ⟨K, hK, rfl, rfl, hI, hb⟩ := hrel
      have HB := Lib.hid hb
      have HI := Lib.hid hI
      clear hb hI
      have HI_c0 := (HI.out.2 0 (by decide)).1; have HI_c1 := (HI.out.2 1 (by decide)).1; have HI_c2 := (HI.out.2 2 (by decide)).1; have HI_c3 := (HI.out.2 3 (by decide)).1; have HI_c4 := (HI.out.2 4 (by decide)).1; have HI_c5 := (HI.out.2 5 (by decide)).1; have HI_c6 := (HI.out.2 6 (by decide)).1; have HI_c7 := (HI.out.2 7 (by decide)).1; have HI_c8 := (HI.out.2 8 (by decide)).1; have HI_c9 := (HI.out.2 9 (by decide)).1; have HI_c10 := (HI.out.2 10 (by decide)).1; have HI_c11 := (HI.out.2 11 (by decide)).1; have HI_z := HI.out.1
      go_wp2_with fail
      refine (refVRight_any m f _).mono ?_
      rintro e w1 ⟨rfl, hb⟩
      rw [HR.out]
      have hz := hb.size
      (try simp only [World.size_alloc, World.heap_drewN, World.size_drew, World.size_setCell] at hz)
      have HB1 := Lib.hid (show Below w.heap.size w w1 from by have := HB.out; exact bel)
      have HI1 := Lib.hid (HI.out.below hb)
      clear hb HI HB
      clear HI_c0 HI_c1 HI_c2 HI_c3 HI_c4 HI_c5 HI_c6 HI_c7 HI_c8 HI_c9 HI_c10 HI_c11 HI_z
      have hbk := Vote.bestK_le m f K
      have HN := Lib.hid (bestK_next m f K)
      by_cases hlt : K < m
      · have h1 : (K : Int) < m := by omega
        have h0 : (0 : Int) ≤ K := by omega
        have CV := Lib.hid (fun w => refVVotes_any m f (K : Nat) w)
        have CB := Lib.hid (fun w => refVVotes_any m f (Vote.bestK m f K : Nat) w)
        generalize Vote.votes m f (K : Nat) = x at *
        generalize Vote.votes m f (Vote.bestK m f K : Nat) = y at *
        generalize Vote.bestK m f K = z at *
        go_upto_region 5 with fail
        refine region_below (by kernel_rfl) (by kernel_rfl) ?_; intro wR HW
        have HBR := Lib.hid (show Below w.heap.size w wR from by have := HB1.out; rw [← HW.out]; exact bel)
        have HIR := Lib.hid (show Ints wR w.heap.size 12 f from by rw [← HW.out]; exact HI1.out)
        have HIR_c0 := (HIR.out.2 0 (by decide)).1; have HIR_c1 := (HIR.out.2 1 (by decide)).1; have HIR_c2 := (HIR.out.2 2 (by decide)).1; have HIR_c3 := (HIR.out.2 3 (by decide)).1; have HIR_c4 := (HIR.out.2 4 (by decide)).1; have HIR_c5 := (HIR.out.2 5 (by decide)).1; have HIR_c6 := (HIR.out.2 6 (by decide)).1; have HIR_c7 := (HIR.out.2 7 (by decide)).1; have HIR_c8 := (HIR.out.2 8 (by decide)).1; have HIR_c9 := (HIR.out.2 9 (by decide)).1; have HIR_c10 := (HIR.out.2 10 (by decide)).1; have HIR_c11 := (HIR.out.2 11 (by decide)).1; have HIR_z := HIR.out.1
        replace HIR_c0 := cell_regrown HIR_c0; replace HIR_c1 := cell_regrown HIR_c1; replace HIR_c2 := cell_regrown HIR_c2; replace HIR_c3 := cell_regrown HIR_c3; replace HIR_c4 := cell_regrown HIR_c4; replace HIR_c5 := cell_regrown HIR_c5; replace HIR_c6 := cell_regrown HIR_c6; replace HIR_c7 := cell_regrown HIR_c7; replace HIR_c8 := cell_regrown HIR_c8; replace HIR_c9 := cell_regrown HIR_c9; replace HIR_c10 := cell_regrown HIR_c10; replace HIR_c11 := cell_regrown HIR_c11
        (repeat (first | go_big_quiet_step (first | with_reducible exact Calls.regrown_of (CV.out _) | with_reducible exact Calls.regrown_of (CB.out _)) | quiet_step (first | with_reducible exact Calls.regrown_of (CV.out _) | with_reducible exact Calls.regrown_of (CB.out _)))); refine wpQuiet_nil ?_; intro w2 hb2
        have HB2 := Lib.hid (show Below w.heap.size w w2 from by have := HBR.out; exact bthru hb2 this)
        have HI2 := Lib.hid (HIR.out.below hb2)
        clear hb2 HBR HIR
        clear HIR_c0 HIR_c1 HIR_c2 HIR_c3 HIR_c4 HIR_c5 HIR_c6 HIR_c7 HIR_c8 HIR_c9 HIR_c10 HIR_c11 HIR_z
        by_cases hxy : (y : Int) < x
        · go_wp2
          go_roundw
          case rel => exact ⟨K + 1, by omega, by go_num, by rw [HN.out, if_pos (by omega)], HI2.out, HB2.out⟩
          case measure => simp [intOf]; omega
        · go_wp2
          go_roundw
          case rel => exact ⟨K + 1, by omega, by go_num, by rw [HN.out, if_neg (by omega)], HI2.out, HB2.out⟩
          case measure => simp [intOf]; omega
      · obtain rfl : K = m := by omega
        clear HN
        have HI1_c0 := (HI1.out.2 0 (by decide)).1; have HI1_c1 := (HI1.out.2 1 (by decide)).1; have HI1_c2 := (HI1.out.2 2 (by decide)).1; have HI1_c3 := (HI1.out.2 3 (by decide)).1; have HI1_c4 := (HI1.out.2 4 (by decide)).1; have HI1_c5 := (HI1.out.2 5 (by decide)).1; have HI1_c6 := (HI1.out.2 6 (by decide)).1; have HI1_c7 := (HI1.out.2 7 (by decide)).1; have HI1_c8 := (HI1.out.2 8 (by decide)).1; have HI1_c9 := (HI1.out.2 9 (by decide)).1; have HI1_c10 := (HI1.out.2 10 (by decide)).1; have HI1_c11 := (HI1.out.2 11 (by decide)).1; have HI1_z := HI1.out.1
        go_wp2_with fail
        refine (refVRight_any K f _).mono ?_
        rintro e w2 ⟨rfl, hb⟩
        rw [HR.out]
        have hz := hb.size
        (try simp only [World.size_alloc, World.heap_drewN, World.size_drew, World.size_setCell] at hz)
        have HB2 := Lib.hid (show Below w.heap.size w w2 from by have := HB1.out; exact bel)
        have HI2 := Lib.hid (HI1.out.below hb)
        clear hb HI1 HB1
        clear HI1_c0 HI1_c1 HI1_c2 HI1_c3 HI1_c4 HI1_c5 HI1_c6 HI1_c7 HI1_c8 HI1_c9 HI1_c10 HI1_c11 HI1_z
        have HI2_c0 := (HI2.out.2 0 (by decide)).1; have HI2_c1 := (HI2.out.2 1 (by decide)).1; have HI2_c2 := (HI2.out.2 2 (by decide)).1; have HI2_c3 := (HI2.out.2 3 (by decide)).1; have HI2_c4 := (HI2.out.2 4 (by decide)).1; have HI2_c5 := (HI2.out.2 5 (by decide)).1; have HI2_c6 := (HI2.out.2 6 (by decide)).1; have HI2_c7 := (HI2.out.2 7 (by decide)).1; have HI2_c8 := (HI2.out.2 8 (by decide)).1; have HI2_c9 := (HI2.out.2 9 (by decide)).1; have HI2_c10 := (HI2.out.2 10 (by decide)).1; have HI2_c11 := (HI2.out.2 11 (by decide)).1; have HI2_z := HI2.out.1
        go_wp2_with fail
        refine (refVVotes_any K f _ _).mono ?_
        rintro e w3 ⟨rfl, hb⟩
        have := HB2.out
        go_wp2
        go_ret2
        exact ⟨rfl, bel⟩
  · have h := Bool.eq_false_iff.2 h
    rw [(best_no h).1, (best_no h).2]
    go_enter Try.func45, Try.ntmps45
    go_wp2_with fail
    have HI := Lib.hid (Ints.box w f 24)
    refine wp_loop_rounds 1 ?_
    rw [rounds_succ]
    go_wp2_with fail
    refine (refVRight_any n f _).mono ?_
    rintro e w1 ⟨rfl, hb⟩
    rw [h]
    have hz := hb.size
    (try simp only [World.size_alloc, World.heap_drewN, World.size_drew, World.size_setCell] at hz)
    have HB1 := Lib.hid (show Below w.heap.size w w1 from bel)
    have HI1 := Lib.hid (HI.out.below hb)
    clear hb HI
    have HI1_c0 := (HI1.out.2 0 (by decide)).1; have HI1_c1 := (HI1.out.2 1 (by decide)).1; have HI1_c2 := (HI1.out.2 2 (by decide)).1; have HI1_c3 := (HI1.out.2 3 (by decide)).1; have HI1_c4 := (HI1.out.2 4 (by decide)).1; have HI1_c5 := (HI1.out.2 5 (by decide)).1; have HI1_c6 := (HI1.out.2 6 (by decide)).1; have HI1_c7 := (HI1.out.2 7 (by decide)).1; have HI1_c8 := (HI1.out.2 8 (by decide)).1; have HI1_c9 := (HI1.out.2 9 (by decide)).1; have HI1_c10 := (HI1.out.2 10 (by decide)).1; have HI1_c11 := (HI1.out.2 11 (by decide)).1; have HI1_z := HI1.out.1
    go_wp2_with fail
    refine (refVRight_any n f _).mono ?_
    rintro e w2 ⟨rfl, hb⟩
    rw [h]
    have := HB1.out
    go_wp2
    go_ret2
    exact ⟨rfl, bel⟩
end Go.Proofs.Ytkdmmomfolhfbaa
namespace Go.Proofs.Ytkdmmomfolhfbaa
set_option linter.unusedVariables false
set_option linter.unusedSimpArgs false
open Go.ChangeShapes Go.WideShapes Go.RowKit

theorem Ints.set12 {w : World} {b : Nat} {f : Nat → Int} (h : Ints w b 12 f) (g : Nat → Int) : Ints (((((((((((((w).setCell ⟨b, 0, none⟩ (.int .i64 (g 0))).setCell ⟨b, 1, none⟩ (.int .i64 (g 1))).setCell ⟨b, 2, none⟩ (.int .i64 (g 2))).setCell ⟨b, 3, none⟩ (.int .i64 (g 3))).setCell ⟨b, 4, none⟩ (.int .i64 (g 4))).setCell ⟨b, 5, none⟩ (.int .i64 (g 5))).setCell ⟨b, 6, none⟩ (.int .i64 (g 6))).setCell ⟨b, 7, none⟩ (.int .i64 (g 7))).setCell ⟨b, 8, none⟩ (.int .i64 (g 8))).setCell ⟨b, 9, none⟩ (.int .i64 (g 9))).setCell ⟨b, 10, none⟩ (.int .i64 (g 10))).setCell ⟨b, 11, none⟩ (.int .i64 (g 11))) b 12 g := by
  refine Ints.like (Ints.set (Ints.set (Ints.set (Ints.set (Ints.set (Ints.set (Ints.set (Ints.set (Ints.set (Ints.set (Ints.set (Ints.set h 0 (g 0) (by decide) (fun j => if j = 0 then g 0 else f j) (fun j => rfl)) 1 (g 1) (by decide) (fun j => if j = 1 then g 1 else if j = 0 then g 0 else f j) (fun j => rfl)) 2 (g 2) (by decide) (fun j => if j = 2 then g 2 else if j = 1 then g 1 else if j = 0 then g 0 else f j) (fun j => rfl)) 3 (g 3) (by decide) (fun j => if j = 3 then g 3 else if j = 2 then g 2 else if j = 1 then g 1 else if j = 0 then g 0 else f j) (fun j => rfl)) 4 (g 4) (by decide) (fun j => if j = 4 then g 4 else if j = 3 then g 3 else if j = 2 then g 2 else if j = 1 then g 1 else if j = 0 then g 0 else f j) (fun j => rfl)) 5 (g 5) (by decide) (fun j => if j = 5 then g 5 else if j = 4 then g 4 else if j = 3 then g 3 else if j = 2 then g 2 else if j = 1 then g 1 else if j = 0 then g 0 else f j) (fun j => rfl)) 6 (g 6) (by decide) (fun j => if j = 6 then g 6 else if j = 5 then g 5 else if j = 4 then g 4 else if j = 3 then g 3 else if j = 2 then g 2 else if j = 1 then g 1 else if j = 0 then g 0 else f j) (fun j => rfl)) 7 (g 7) (by decide) (fun j => if j = 7 then g 7 else if j = 6 then g 6 else if j = 5 then g 5 else if j = 4 then g 4 else if j = 3 then g 3 else if j = 2 then g 2 else if j = 1 then g 1 else if j = 0 then g 0 else f j) (fun j => rfl)) 8 (g 8) (by decide) (fun j => if j = 8 then g 8 else if j = 7 then g 7 else if j = 6 then g 6 else if j = 5 then g 5 else if j = 4 then g 4 else if j = 3 then g 3 else if j = 2 then g 2 else if j = 1 then g 1 else if j = 0 then g 0 else f j) (fun j => rfl)) 9 (g 9) (by decide) (fun j => if j = 9 then g 9 else if j = 8 then g 8 else if j = 7 then g 7 else if j = 6 then g 6 else if j = 5 then g 5 else if j = 4 then g 4 else if j = 3 then g 3 else if j = 2 then g 2 else if j = 1 then g 1 else if j = 0 then g 0 else f j) (fun j => rfl)) 10 (g 10) (by decide) (fun j => if j = 10 then g 10 else if j = 9 then g 9 else if j = 8 then g 8 else if j = 7 then g 7 else if j = 6 then g 6 else if j = 5 then g 5 else if j = 4 then g 4 else if j = 3 then g 3 else if j = 2 then g 2 else if j = 1 then g 1 else if j = 0 then g 0 else f j) (fun j => rfl)) 11 (g 11) (by decide) (fun j => if j = 11 then g 11 else if j = 10 then g 10 else if j = 9 then g 9 else if j = 8 then g 8 else if j = 7 then g 7 else if j = 6 then g 6 else if j = 5 then g 5 else if j = 4 then g 4 else if j = 3 then g 3 else if j = 2 then g 2 else if j = 1 then g 1 else if j = 0 then g 0 else f j) (fun j => rfl)) (fun j hj => ?_)
  rcases twelve hj with rfl | rfl | rfl | rfl | rfl | rfl | rfl | rfl | rfl | rfl | rfl | rfl <;> rfl
theorem Ints.other12 {w : World} {b' n : Nat} {f : Nat → Int} (h : Ints w b' n f) (b : Nat) (g : Nat → Int) (hb : b ≠ b') : Ints (((((((((((((w).setCell ⟨b, 0, none⟩ (.int .i64 (g 0))).setCell ⟨b, 1, none⟩ (.int .i64 (g 1))).setCell ⟨b, 2, none⟩ (.int .i64 (g 2))).setCell ⟨b, 3, none⟩ (.int .i64 (g 3))).setCell ⟨b, 4, none⟩ (.int .i64 (g 4))).setCell ⟨b, 5, none⟩ (.int .i64 (g 5))).setCell ⟨b, 6, none⟩ (.int .i64 (g 6))).setCell ⟨b, 7, none⟩ (.int .i64 (g 7))).setCell ⟨b, 8, none⟩ (.int .i64 (g 8))).setCell ⟨b, 9, none⟩ (.int .i64 (g 9))).setCell ⟨b, 10, none⟩ (.int .i64 (g 10))).setCell ⟨b, 11, none⟩ (.int .i64 (g 11))) b' n f :=
  ((((((((((((h).other b 0 (.int .i64 (g 0)) hb).other b 1 (.int .i64 (g 1)) hb).other b 2 (.int .i64 (g 2)) hb).other b 3 (.int .i64 (g 3)) hb).other b 4 (.int .i64 (g 4)) hb).other b 5 (.int .i64 (g 5)) hb).other b 6 (.int .i64 (g 6)) hb).other b 7 (.int .i64 (g 7)) hb).other b 8 (.int .i64 (g 8)) hb).other b 9 (.int .i64 (g 9)) hb).other b 10 (.int .i64 (g 10)) hb).other b 11 (.int .i64 (g 11)) hb
theorem hub_eq (f g : Nat → Int) (w : World) : (Op.equalIn 9999 22 (.agg #[.int .i64 (f 0), .int .i64 (f 1), .int .i64 (f 2), .int .i64 (f 3), .int .i64 (f 4), .int .i64 (f 5), .int .i64 (f 6), .int .i64 (f 7)]) (.agg #[.int .i64 (g 0), .int .i64 (g 1), .int .i64 (g 2), .int .i64 (g 3), .int .i64 (g 4), .int .i64 (g 5), .int .i64 (g 6), .int .i64 (g 7)])).run Try.prog w = .ok (eq8 f g) w := by
  have h : (Try.prog.info? 3).isSome = true := by kernel_rfl
  obtain ⟨i, hi⟩ := Option.isSome_iff_exists.1 h
  exact eq_arr8 f g Try.underlying22 hi Try.underlying3 (by kernel_rfl) w
theorem hub_index (f : Nat → Int) {K : Nat} (hK : K < 8) (w : World) : (Instr.index 22 (.agg #[.int .i64 (f 0), .int .i64 (f 1), .int .i64 (f 2), .int .i64 (f 3), .int .i64 (f 4), .int .i64 (f 5), .int .i64 (f 6), .int .i64 (f 7)]) (.int .i64 K)).run Try.prog w = .ok (.int .i64 (f K)) w := by
  have h : (Try.prog.info? 3).isSome = true := by kernel_rfl
  obtain ⟨i, hi⟩ := Option.isSome_iff_exists.1 h
  exact arr8_index f Try.underlying22 hi Try.underlying3 (by kernel_rfl) hK w
theorem hub_same (f : Nat → Int) (w : World) : (Op.equalIn 9999 22 (.agg #[.int .i64 (f 0), .int .i64 (f 1), .int .i64 (f 2), .int .i64 (f 3), .int .i64 (f 4), .int .i64 (f 5), .int .i64 (f 6), .int .i64 (f 7)]) (.agg #[.int .i64 (f 0), .int .i64 (f 1), .int .i64 (f 2), .int .i64 (f 3), .int .i64 (f 4), .int .i64 (f 5), .int .i64 (f 6), .int .i64 (f 7)])).run Try.prog w = .ok true w := by
  rw [hub_eq, eq8_self]
def Bd (x : Int) : Prop := -9223372036854775808 ≤ x ∧ x ≤ 9223372036854775807
def Bd12 (f : Nat → Int) : Prop := ∀ j : Nat, j < 12 → -9223372036854775808 ≤ f j ∧ f j ≤ 9223372036854775807
theorem ok_bd {n : Int} {f : Nat → Int} (h : Vote.Ok n f) : Bd12 f := by
  obtain ⟨h38, hA, h8, h9, h10, h11⟩ := h
  intro j hj
  by_cases h : j < 8
  · have := hA j h
    have := Vote.most_in h38 j
    omega
  · have h4 : j = 8 ∨ j = 9 ∨ j = 10 ∨ j = 11 := by omega
    rcases h4 with rfl | rfl | rfl | rfl <;> omega
theorem fresh_bd (n : Int) : Bd12 (Vote.fresh n) := by
  intro j hj
  unfold Vote.fresh
  by_cases h : Conf.right n = true
  · have := Conf.right_spec.1 h
    have := Vote.most_in this j
    rw [if_pos h]
    (repeat split) <;> omega
  · rw [if_neg h]; omega
/-! What the program's calls must answer. -/
def CClean : Prop := ∀ (n : Int) (f : Nat → Int) (w : World), Bd n → Bd12 f → Calls Try.prog 29 #[.int .i64 n, .agg #[.int .i64 (f 0), .int .i64 (f 1), .int .i64 (f 2), .int .i64 (f 3), .int .i64 (f 4), .int .i64 (f 5), .int .i64 (f 6), .int .i64 (f 7), .int .i64 (f 8), .int .i64 (f 9), .int .i64 (f 10), .int .i64 (f 11)]] w fun e w' => e = .returned (.tuple #[.agg #[.int .i64 (Vote.clean n f 0), .int .i64 (Vote.clean n f 1), .int .i64 (Vote.clean n f 2), .int .i64 (Vote.clean n f 3), .int .i64 (Vote.clean n f 4), .int .i64 (Vote.clean n f 5), .int .i64 (Vote.clean n f 6), .int .i64 (Vote.clean n f 7), .int .i64 (Vote.clean n f 8), .int .i64 (Vote.clean n f 9), .int .i64 (Vote.clean n f 10), .int .i64 (Vote.clean n f 11)], .int .i64 (Vote.err n)]) ∧ Below w.heap.size w w'
def CRight : Prop := ∀ (n : Int) (f : Nat → Int) (w : World), Bd n → Bd12 f → Calls Try.prog 17 #[.int .i64 n, .agg #[.int .i64 (f 0), .int .i64 (f 1), .int .i64 (f 2), .int .i64 (f 3), .int .i64 (f 4), .int .i64 (f 5), .int .i64 (f 6), .int .i64 (f 7), .int .i64 (f 8), .int .i64 (f 9), .int .i64 (f 10), .int .i64 (f 11)]] w fun e w' => e = .returned (.bool (Vote.ok n f)) ∧ Below w.heap.size w w'
def CTick : Prop := ∀ (n : Int) (f : Nat → Int) (w : World), Bd n → Bd12 f → Calls Try.prog 18 #[.int .i64 n, .agg #[.int .i64 (f 0), .int .i64 (f 1), .int .i64 (f 2), .int .i64 (f 3), .int .i64 (f 4), .int .i64 (f 5), .int .i64 (f 6), .int .i64 (f 7), .int .i64 (f 8), .int .i64 (f 9), .int .i64 (f 10), .int .i64 (f 11)]] w fun e w' => e = .returned (.tuple #[.agg #[.int .i64 (Vote.tick n f 0), .int .i64 (Vote.tick n f 1), .int .i64 (Vote.tick n f 2), .int .i64 (Vote.tick n f 3), .int .i64 (Vote.tick n f 4), .int .i64 (Vote.tick n f 5), .int .i64 (Vote.tick n f 6), .int .i64 (Vote.tick n f 7), .int .i64 (Vote.tick n f 8), .int .i64 (Vote.tick n f 9), .int .i64 (Vote.tick n f 10), .int .i64 (Vote.tick n f 11)], .int .i64 (Vote.tickErr n f)]) ∧ Below w.heap.size w w'
def CVotes : Prop := ∀ (n : Int) (f : Nat → Int) (v : Int) (w : World), Bd n → Bd12 f → Bd v → Calls Try.prog 36 #[.int .i64 n, .agg #[.int .i64 (f 0), .int .i64 (f 1), .int .i64 (f 2), .int .i64 (f 3), .int .i64 (f 4), .int .i64 (f 5), .int .i64 (f 6), .int .i64 (f 7), .int .i64 (f 8), .int .i64 (f 9), .int .i64 (f 10), .int .i64 (f 11)], .int .i64 v] w fun e w' => e = .returned (.int .i64 (Vote.votes n f v : Nat)) ∧ Below w.heap.size w w'
def CBest : Prop := ∀ (n : Int) (f : Nat → Int) (w : World), Bd n → Bd12 f → Calls Try.prog 37 #[.int .i64 n, .agg #[.int .i64 (f 0), .int .i64 (f 1), .int .i64 (f 2), .int .i64 (f 3), .int .i64 (f 4), .int .i64 (f 5), .int .i64 (f 6), .int .i64 (f 7), .int .i64 (f 8), .int .i64 (f 9), .int .i64 (f 10), .int .i64 (f 11)]] w fun e w' => e = .returned (.tuple #[.int .i64 (Vote.best n f : Nat), .int .i64 (Vote.bestVotes n f : Nat)]) ∧ Below w.heap.size w w'
end Go.Proofs.Ytkdmmomfolhfbaa
namespace Go.Proofs.Ytkdmmomfolhfbaa
set_option linter.unusedVariables false
set_option linter.unusedSimpArgs false

/-- Twelve integers. -/
def mk12 (a0 a1 a2 a3 a4 a5 a6 a7 a8 a9 a10 a11 : Int) : Nat → Int
  | 0 => a0
  | 1 => a1
  | 2 => a2
  | 3 => a3
  | 4 => a4
  | 5 => a5
  | 6 => a6
  | 7 => a7
  | 8 => a8
  | 9 => a9
  | 10 => a10
  | 11 => a11
  | _ => 0
theorem mk12_bd (a0 : Int) (h0 : -9223372036854775808 ≤ a0 ∧ a0 ≤ 9223372036854775807) (a1 : Int) (h1 : -9223372036854775808 ≤ a1 ∧ a1 ≤ 9223372036854775807) (a2 : Int) (h2 : -9223372036854775808 ≤ a2 ∧ a2 ≤ 9223372036854775807) (a3 : Int) (h3 : -9223372036854775808 ≤ a3 ∧ a3 ≤ 9223372036854775807) (a4 : Int) (h4 : -9223372036854775808 ≤ a4 ∧ a4 ≤ 9223372036854775807) (a5 : Int) (h5 : -9223372036854775808 ≤ a5 ∧ a5 ≤ 9223372036854775807) (a6 : Int) (h6 : -9223372036854775808 ≤ a6 ∧ a6 ≤ 9223372036854775807) (a7 : Int) (h7 : -9223372036854775808 ≤ a7 ∧ a7 ≤ 9223372036854775807) (a8 : Int) (h8 : -9223372036854775808 ≤ a8 ∧ a8 ≤ 9223372036854775807) (a9 : Int) (h9 : -9223372036854775808 ≤ a9 ∧ a9 ≤ 9223372036854775807) (a10 : Int) (h10 : -9223372036854775808 ≤ a10 ∧ a10 ≤ 9223372036854775807) (a11 : Int) (h11 : -9223372036854775808 ≤ a11 ∧ a11 ≤ 9223372036854775807) : Bd12 (mk12 a0 a1 a2 a3 a4 a5 a6 a7 a8 a9 a10 a11) := by
  intro j hj
  rcases twelve hj with rfl | rfl | rfl | rfl | rfl | rfl | rfl | rfl | rfl | rfl | rfl | rfl <;> assumption
end Go.Proofs.Ytkdmmomfolhfbaa
