
import Derived.Test.YthdieladjnneoaaRows
import Derived.Test.YthdieladjnneoaaPortH
namespace Go.Proofs.Ythdieladjnneoaa
set_option linter.unusedVariables false
set_option linter.unusedSimpArgs false
open Go.ChangeShapes Go.WideShapes Go.RowKit

theorem Both_any (va vb : Value) (n m : Nat) (f g : Nat → Int) (w : World) (hn : n ≤ 1000) (hm : m ≤ maxLen) (hf : Prs w va n f) (hg : Prs w vb m g) :
    Calls Try.prog 10 #[va, vb] w fun e w' => Gives (bothLen n m) (bothK f g n) (bothErr n m) e w' ∧ Below w.heap.size w w' := by
  by_cases h : n = m
  · subst h
    rw [show bothLen n n = n from if_pos rfl, show bothErr n n = 0 from if_pos rfl]
    by_cases h0 : n = 0
    · subst h0
      have hmk : (Instr.makeSlice 23 (.int .i64 0) (.int .i64 0)).run Try.prog w = .ok (.slice (some ⟨w.heap.size, 0, none⟩) 0 0) (w.alloc (.cells (madeCells #[.int .i64 0, .int .i64 0] 0) 35)) := make_pairs 0 (by omega) w
      rcases hf with ⟨-, pf, cf, rfl⟩ | ⟨b, o, cap, rfl, hb, -⟩
      all_goals
        rcases hg with ⟨-, pg, cg, rfl⟩ | ⟨b', o', cap', rfl, hb', -⟩
        all_goals
          go_enter Try.func10, Try.ntmps10
          go_wp2_with fail
          refine wp_loop_rounds 1 ?_
          rw [rounds_succ]
          go_wp2
          go_ret2
          exact ⟨⟨_, rfl, Or.inr ⟨w.heap.size, 0, 0, rfl, by simp, fun j hj => by omega⟩⟩, bel⟩
    · rcases hf with ⟨rfl, -⟩ | ⟨b, o, cap, rfl, hb, hf⟩
      · omega
      · rcases hg with ⟨rfl, -⟩ | ⟨b', o', cap', rfl, hb', hg⟩
        · omega
        · exact Both_at n b o cap b' o' cap' f g w hn hb hb' hf hg
  · rw [show bothLen n m = 0 from if_neg h, show bothErr n m = 2 from if_neg h]
    have q : ((n : Int) != m) = true := by simp; omega
    rcases hf with ⟨rfl, pf, cf, rfl⟩ | ⟨b, o, cap, rfl, hb, -⟩
    all_goals
      rcases hg with ⟨rfl, pg, cg, rfl⟩ | ⟨b', o', cap', rfl, hb', -⟩
      all_goals first
        | (exfalso; omega)
        | (clear h; go_enter Try.func10, Try.ntmps10; go_wp2; go_ret2; exact ⟨Gives.none, bel⟩)
set_option maxHeartbeats 1000000 in
theorem eq_eq (b o cap b' o' cap' n : Nat) (f g : Nat → Int) (w : World) (hn : n ≤ 1000000)
    (hf : ∀ j, j < 2 * n → w.cell? ⟨b, o + j, none⟩ = some (.int .i64 (f j)))
    (hg : ∀ j, j < 2 * n → w.cell? ⟨b', o' + j, none⟩ = some (.int .i64 (g j))) :
    Calls Try.prog 20 #[.slice (some ⟨b, o, none⟩) n cap, .slice (some ⟨b', o', none⟩) n cap'] w fun e w' => e = .returned (.bool (sameB n n f g)) ∧ Below w.heap.size w w' := by
  have HF := Lib.hid hf
  have HG := Lib.hid hg
  clear hf hg
  go_enter Try.func20, Try.ntmps20
  go_wp2_with fail
  go_loopw [13] (fun k wr => ∃ K : Nat, K ≤ n ∧ k = .int .i64 K ∧ Below w.heap.size w wr ∧ ∀ j, j < 2 * K → f j = g j) (fun k _ => n - (intOf k).toNat)
  case atStart => exact ⟨0, by omega, rfl, bel, fun j hj => by omega⟩
  case round =>
    obtain ⟨K, hK, rfl, hb, hq⟩ := hrel
    have HB := Lib.hid hb
    have HQ := Lib.hid hq
    by_cases hlt : K < n
    · have h1 : (K : Int) < n := by omega
      have h0 : (0 : Int) ≤ K := by omega
      obtain ⟨c0, c1⟩ := two_cells HF.out hb hlt
      obtain ⟨d0, d1⟩ := two_cells HG.out hb hlt
      clear hb hq
      by_cases e0 : f (K * 2) = g (K * 2)
      · by_cases e1 : f (K * 2 + 1) = g (K * 2 + 1)
        · have HE := Lib.hid (And.intro e0 e1)
          rw [e0] at c0
          rw [e1] at c1
          clear e0 e1
          go_wp2_with fail
          go_region
          go_wp2
          go_roundw
          case rel =>
            have := HB.out
            refine ⟨K + 1, by omega, by go_num, bel, fun j hj => ?_⟩
            by_cases q : j < 2 * K
            · exact HQ.out j q
            · by_cases q1 : j = K * 2
              · subst q1; exact HE.out.1
              · obtain rfl : j = K * 2 + 1 := by omega
                exact HE.out.2
          case measure => simp [intOf]; omega
        · have HN : Hid (sameB n n f g = false) := same_no (fun h => e1 (h.2 _ (by omega)))
          go_wp2_with fail
          go_region
          go_wp2
          have := HB.out
          go_ret
          exact ⟨by rw [HN.out]; rfl, bel⟩
      · have HN : Hid (sameB n n f g = false) := same_no (fun h => e0 (h.2 _ (by omega)))
        go_wp2_with fail
        go_region
        go_wp2
        have := HB.out
        go_ret
        exact ⟨by rw [HN.out]; rfl, bel⟩
    · obtain rfl : K = n := by omega
      have HY : Hid (sameB K K f g = true) := same_yes hq
      clear hb hq
      go_wp2
      have := HB.out
      go_ret
      exact ⟨by rw [HY.out]; rfl, bel⟩
theorem eq_any (va vb : Value) (n m : Nat) (f g : Nat → Int) (w : World) (hn : n ≤ 1000000) (hm : m ≤ 1000000) (hf : Prs w va n f) (hg : Prs w vb m g) :
    Calls Try.prog 20 #[va, vb] w fun e w' => e = .returned (.bool (sameB n m f g)) ∧ Below w.heap.size w w' := by
  by_cases h : n = m
  · subst h
    rcases hf with ⟨rfl, pf, cf, rfl⟩ | ⟨b, o, cap, rfl, hb, hf⟩
    · rw [same_yes (fun j hj => by omega)]
      rcases hg with ⟨-, pg, cg, rfl⟩ | ⟨b', o', cap', rfl, hb', hg⟩
      all_goals
        go_enter Try.func20, Try.ntmps20
        go_wp2_with fail
        refine wp_loop_rounds 1 ?_
        rw [rounds_succ]
        go_wp2
        go_ret
        exact ⟨rfl, bel⟩
    · rcases hg with ⟨rfl, pg, cg, rfl⟩ | ⟨b', o', cap', rfl, hb', hg⟩
      · rw [same_yes (fun j hj => by omega)]
        go_enter Try.func20, Try.ntmps20
        go_wp2_with fail
        refine wp_loop_rounds 1 ?_
        rw [rounds_succ]
        go_wp2
        go_ret
        exact ⟨rfl, bel⟩
      · exact eq_eq b o cap b' o' cap' n f g w hn hf hg
  · rw [same_no (fun q => h q.1)]
    have h2 : ((n : Int) != m) = true := by simp; omega
    rcases hf with ⟨rfl, pf, cf, rfl⟩ | ⟨b, o, cap, rfl, hb, hf⟩
    all_goals
      rcases hg with ⟨rfl, pg, cg, rfl⟩ | ⟨b', o', cap', rfl, hb', hg⟩
      all_goals
        go_enter Try.func20, Try.ntmps20
        first
          | (go_wp2; go_ret; exact ⟨rfl, bel⟩)
          | (exfalso; omega)
theorem Same_any (va vb : Value) (n m : Nat) (f g : Nat → Int) (w : World) (hn : n ≤ 1000000) (hm : m ≤ 1000000) (hf : Prs w va n f) (hg : Prs w vb m g) :
    Calls Try.prog 13 #[va, vb] w fun e w' => e = .returned (.bool (sameB n m f g)) ∧ Below w.heap.size w w' := by
  have HC := Lib.hid (eq_any va vb n m f g w hn hm hf hg)
  clear hf hg
  go_enter Try.func13, Try.ntmps13
  go_wp2_with fail
  refine (HC.out).mono ?_; rintro e w1 ⟨rfl, hb⟩; have hz := hb.size; (try simp only [World.size_alloc, World.heap_drewN, World.size_drew, World.size_setCell] at hz)
  go_wp2
  go_ret
  exact ⟨rfl, bel⟩
end Go.Proofs.Ythdieladjnneoaa
