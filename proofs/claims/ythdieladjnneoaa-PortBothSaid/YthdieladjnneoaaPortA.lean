
import Derived.Test.YthdieladjnneoaaRows
import Derived.Test.YthdieladjnneoaaPort0
import Derived.LoopTactic
import Derived.Deep.QuietTactic
import Derived.BigQuiet
import Derived.RegionTactic
namespace Go.Proofs.Ythdieladjnneoaa
set_option linter.unusedVariables false
set_option linter.unusedSimpArgs false
open Go.ChangeShapes Go.WideShapes Go.RowKit

theorem two_cells {w wr : World} {b o n K : Nat} {f : Nat → Int} (h : ∀ j, j < 2 * n → w.cell? ⟨b, o + j, none⟩ = some (.int .i64 (f j))) (hb : Below w.heap.size w wr) (hlt : K < n) :
    wr.cell? ⟨b, o + K * 2, none⟩ = some (.int .i64 (f (K * 2))) ∧ wr.cell? ⟨b, o + K * 2 + 1, none⟩ = some (.int .i64 (f (K * 2 + 1))) := by
  have e0 := h (K * 2) (by omega)
  have e1 := h (K * 2 + 1) (by omega)
  exact ⟨by rw [hb.cell (block_lt_of_cell e0)]; exact e0, by rw [show o + K * 2 + 1 = o + (K * 2 + 1) by omega, hb.cell (block_lt_of_cell e1)]; exact e1⟩
set_option maxHeartbeats 1000000 in
theorem refSame_eq (b o cap b' o' cap' n : Nat) (f g : Nat → Int) (w : World) (hn : n ≤ 1000000)
    (hf : ∀ j, j < 2 * n → w.cell? ⟨b, o + j, none⟩ = some (.int .i64 (f j)))
    (hg : ∀ j, j < 2 * n → w.cell? ⟨b', o' + j, none⟩ = some (.int .i64 (g j))) :
    Calls Try.prog 12 #[.slice (some ⟨b, o, none⟩) n cap, .slice (some ⟨b', o', none⟩) n cap'] w fun e w' => e = .returned (.bool (sameB n n f g)) ∧ Below w.heap.size w w' := by
  have HF := Lib.hid hf
  have HG := Lib.hid hg
  clear hf hg
  go_enter Try.func12, Try.ntmps12
  go_wp2_with fail
  go_loopw [5] (fun k wr => ∃ K : Nat, K ≤ n ∧ k = .int .i64 K ∧ Below w.heap.size w wr ∧ ∀ j, j < 2 * K → f j = g j) (fun k _ => n - (intOf k).toNat)
  case atStart => exact ⟨0, by omega, rfl, bel, fun j hj => by omega⟩
  case round =>
    obtain ⟨K, hK, rfl, hb, hq⟩ := hrel
    have HB := Lib.hid hb
    have HQ := Lib.hid hq
    by_cases hlt : K < n
    · have h1 : (K : Int) < n := by omega
      have h0 : (0 : Int) ≤ K := by omega
      obtain ⟨c0, c1⟩ := two_cells HF.out hb hlt
      obtain ⟨d0, d1⟩ := two_cells HG.out hb hlt
      clear hb hq
      by_cases e0 : f (K * 2) = g (K * 2)
      · by_cases e1 : f (K * 2 + 1) = g (K * 2 + 1)
        · have HE := Lib.hid (And.intro e0 e1)
          rw [e0] at c0
          rw [e1] at c1
          clear e0 e1
          go_wp2_with fail
          go_region
          go_wp2
          go_roundw
          case rel =>
            have := HB.out
            refine ⟨K + 1, by omega, by go_num, bel, fun j hj => ?_⟩
            by_cases q : j < 2 * K
            · exact HQ.out j q
            · by_cases q1 : j = K * 2
              · subst q1; exact HE.out.1
              · obtain rfl : j = K * 2 + 1 := by omega
                exact HE.out.2
          case measure => simp [intOf]; omega
        · have HN : Hid (sameB n n f g = false) := same_no (fun h => e1 (h.2 _ (by omega)))
          go_wp2_with fail
          go_region
          go_wp2
          have := HB.out
          go_ret
          exact ⟨by rw [HN.out]; rfl, bel⟩
      · have HN : Hid (sameB n n f g = false) := same_no (fun h => e0 (h.2 _ (by omega)))
        go_wp2_with fail
        go_region
        go_wp2
        have := HB.out
        go_ret
        exact ⟨by rw [HN.out]; rfl, bel⟩
    · obtain rfl : K = n := by omega
      have HY : Hid (sameB K K f g = true) := same_yes hq
      clear hb hq
      go_wp2
      have := HB.out
      go_ret
      exact ⟨by rw [HY.out]; rfl, bel⟩
theorem refSame_any (va vb : Value) (n m : Nat) (f g : Nat → Int) (w : World) (hn : n ≤ 1000000) (hm : m ≤ 1000000) (hf : Prs w va n f) (hg : Prs w vb m g) :
    Calls Try.prog 12 #[va, vb] w fun e w' => e = .returned (.bool (sameB n m f g)) ∧ Below w.heap.size w w' := by
  by_cases h : n = m
  · subst h
    rcases hf with ⟨rfl, pf, cf, rfl⟩ | ⟨b, o, cap, rfl, hb, hf⟩
    · rw [same_yes (fun j hj => by omega)]
      rcases hg with ⟨-, pg, cg, rfl⟩ | ⟨b', o', cap', rfl, hb', hg⟩
      all_goals
        go_enter Try.func12, Try.ntmps12
        go_wp2_with fail
        refine wp_loop_rounds 1 ?_
        rw [rounds_succ]
        go_wp2
        go_ret
        exact ⟨rfl, bel⟩
    · rcases hg with ⟨rfl, pg, cg, rfl⟩ | ⟨b', o', cap', rfl, hb', hg⟩
      · rw [same_yes (fun j hj => by omega)]
        go_enter Try.func12, Try.ntmps12
        go_wp2_with fail
        refine wp_loop_rounds 1 ?_
        rw [rounds_succ]
        go_wp2
        go_ret
        exact ⟨rfl, bel⟩
      · exact refSame_eq b o cap b' o' cap' n f g w hn hf hg
  · rw [same_no (fun q => h q.1)]
    have h2 : ((n : Int) != m) = true := by simp; omega
    rcases hf with ⟨rfl, pf, cf, rfl⟩ | ⟨b, o, cap, rfl, hb, hf⟩
    all_goals
      rcases hg with ⟨rfl, pg, cg, rfl⟩ | ⟨b', o', cap', rfl, hb', hg⟩
      all_goals
        go_enter Try.func12, Try.ntmps12
        first
          | (go_wp2; go_ret; exact ⟨rfl, bel⟩)
          | (exfalso; omega)
end Go.Proofs.Ythdieladjnneoaa
