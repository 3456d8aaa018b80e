
import Derived.Test.YtkdmmomfolhfbaaRows
import Derived.Test.YtkdmmomfolhfbaaMem
import Derived.LoopTactic
import Derived.Deep.QuietTactic
import Derived.BigQuiet
import Derived.RegionTactic
namespace Go.Proofs.Ytkdmmomfolhfbaa
set_option linter.unusedVariables false
set_option linter.unusedSimpArgs false
open Go.ChangeShapes Go.WideShapes Go.RowKit

theorem make_pairs (n : Nat) (hn : n ≤ 1000) (w : World) :
    (Instr.makeSlice 28 (.int .i64 (n : Int)) (.int .i64 (n : Int))).run Try.prog w = .ok (.slice (some ⟨w.heap.size, 0, none⟩) n n) (w.alloc (.cells (madeCells #[.int .i64 0, .int .i64 0] (2 * n)) 33)) := by
  have hinfo : (Try.prog.info? 33).map (fun i => (i.zero, i.size, i.bytes)) = some (some (.agg #[.int .i64 0, .int .i64 0]), 2, 16) := by kernel_rfl
  obtain ⟨i, hi, hzz⟩ := Option.map_eq_some_iff.1 hinfo
  simp only [Prod.mk.injEq] at hzz
  obtain ⟨hz, hs, hb⟩ := hzz
  have hr := run_make (P := Try.prog) w 28 33 i _ Try.underlying28 hi hz .i64 .i64 n n (by omega) (Int.le_refl _) (by rw [hb]; omega) (by omega)
  simp only [Int.toNat_natCast, hs] at hr
  rw [hr, Nat.mul_comm]
  rfl
set_option maxHeartbeats 1000000 in
theorem refSame_eq (b o cap b' o' cap' n : Nat) (f g : Nat → Int) (w : World) (hn : n ≤ 1000000)
    (hf : ∀ j, j < 2 * n → w.cell? ⟨b, o + j, none⟩ = some (.int .i64 (f j)))
    (hg : ∀ j, j < 2 * n → w.cell? ⟨b', o' + j, none⟩ = some (.int .i64 (g j))) :
    Calls Try.prog 13 #[.slice (some ⟨b, o, none⟩) n cap, .slice (some ⟨b', o', none⟩) n cap'] w fun e w' => e = .returned (.bool (sameB n n f g)) ∧ Below w.heap.size w w' := by
  have HF := Lib.hid hf
  have HG := Lib.hid hg
  clear hf hg
  go_enter Try.func13, Try.ntmps13
  go_wp2_with fail
  go_loopw [5] (fun k wr => ∃ K : Nat, K ≤ n ∧ k = .int .i64 K ∧ Below w.heap.size w wr ∧ ∀ j, j < 2 * K → f j = g j) (fun k _ => n - (intOf k).toNat)
  case atStart => exact ⟨0, by omega, rfl, bel, fun j hj => by omega⟩
  case round =>
    obtain ⟨K, hK, rfl, hb, hq⟩ := hrel
    have HB := Lib.hid hb
    have HQ := Lib.hid hq
    by_cases hlt : K < n
    · have h1 : (K : Int) < n := by omega
      have h0 : (0 : Int) ≤ K := by omega
      obtain ⟨c0, c1⟩ := two_cells HF.out hb hlt
      obtain ⟨d0, d1⟩ := two_cells HG.out hb hlt
      clear hb hq
      by_cases e0 : f (K * 2) = g (K * 2)
      · by_cases e1 : f (K * 2 + 1) = g (K * 2 + 1)
        · have HE := Lib.hid (And.intro e0 e1)
          rw [e0] at c0
          rw [e1] at c1
          clear e0 e1
          go_wp2_with fail
          go_region
          go_wp2
          go_roundw
          case rel =>
            have := HB.out
            refine ⟨K + 1, by omega, by go_num, bel, fun j hj => ?_⟩
            by_cases q : j < 2 * K
            · exact HQ.out j q
            · by_cases q1 : j = K * 2
              · subst q1; exact HE.out.1
              · obtain rfl : j = K * 2 + 1 := by omega
                exact HE.out.2
          case measure => simp [intOf]; omega
        · have HN : Hid (sameB n n f g = false) := same_no (fun h => e1 (h.2 _ (by omega)))
          go_wp2_with fail
          go_region
          go_wp2
          have := HB.out
          go_ret
          exact ⟨by rw [HN.out]; rfl, bel⟩
      · have HN : Hid (sameB n n f g = false) := same_no (fun h => e0 (h.2 _ (by omega)))
        go_wp2_with fail
        go_region
        go_wp2
        have := HB.out
        go_ret
        exact ⟨by rw [HN.out]; rfl, bel⟩
    · obtain rfl : K = n := by omega
      have HY : Hid (sameB K K f g = true) := same_yes hq
      clear hb hq
      go_wp2
      have := HB.out
      go_ret
      exact ⟨by rw [HY.out]; rfl, bel⟩
theorem refSame_any (va vb : Value) (n m : Nat) (f g : Nat → Int) (w : World) (hn : n ≤ 1000000) (hm : m ≤ 1000000) (hf : Prs w va n f) (hg : Prs w vb m g) :
    Calls Try.prog 13 #[va, vb] w fun e w' => e = .returned (.bool (sameB n m f g)) ∧ Below w.heap.size w w' := by
  by_cases h : n = m
  · subst h
    rcases hf with ⟨rfl, pf, cf, rfl⟩ | ⟨b, o, cap, rfl, hb, hf⟩
    · rw [same_yes (fun j hj => by omega)]
      rcases hg with ⟨-, pg, cg, rfl⟩ | ⟨b', o', cap', rfl, hb', hg⟩
      all_goals
        go_enter Try.func13, Try.ntmps13
        go_wp2_with fail
        refine wp_loop_rounds 1 ?_
        rw [rounds_succ]
        go_wp2
        go_ret
        exact ⟨rfl, bel⟩
    · rcases hg with ⟨rfl, pg, cg, rfl⟩ | ⟨b', o', cap', rfl, hb', hg⟩
      · rw [same_yes (fun j hj => by omega)]
        go_enter Try.func13, Try.ntmps13
        go_wp2_with fail
        refine wp_loop_rounds 1 ?_
        rw [rounds_succ]
        go_wp2
        go_ret
        exact ⟨rfl, bel⟩
      · exact refSame_eq b o cap b' o' cap' n f g w hn hf hg
  · rw [same_no (fun q => h q.1)]
    have h2 : ((n : Int) != m) = true := by simp; omega
    rcases hf with ⟨rfl, pf, cf, rfl⟩ | ⟨b, o, cap, rfl, hb, hf⟩
    all_goals
      rcases hg with ⟨rfl, pg, cg, rfl⟩ | ⟨b', o', cap', rfl, hb', hg⟩
      all_goals
        go_enter Try.func13, Try.ntmps13
        first
          | (go_wp2; go_ret; exact ⟨rfl, bel⟩)
          | (exfalso; omega)
end Go.Proofs.Ytkdmmomfolhfbaa
