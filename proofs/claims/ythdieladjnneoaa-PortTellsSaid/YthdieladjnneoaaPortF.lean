
import Derived.Test.YthdieladjnneoaaRows
import Derived.Test.YthdieladjnneoaaPortE
namespace Go.Proofs.Ythdieladjnneoaa
set_option linter.unusedVariables false
set_option linter.unusedSimpArgs false
open Go.ChangeShapes Go.WideShapes Go.RowKit

def bothErr (n m : Nat) : Int := if n = m then 0 else 2
def bothLen (n m : Nat) : Nat := if n = m then n else 0
set_option maxHeartbeats 1000000 in
theorem refBoth_any (va vb : Value) (n m : Nat) (f g : Nat → Int) (w : World) (hn : n ≤ 1000) (hm : m ≤ maxLen) (hf : Prs w va n f) (hg : Prs w vb m g) :
    Calls Try.prog 11 #[va, vb] w fun e w' => Gives (bothLen n m) (bothK f g n) (bothErr n m) e w' ∧ Below w.heap.size w w' := by
  by_cases h : n = m
  · subst h
    rw [show bothLen n n = n from if_pos rfl, show bothErr n n = 0 from if_pos rfl]
    by_cases h0 : n = 0
    · subst h0
      have hf2 : ∃ pf cf, va = .slice pf 0 cf := by
        rcases hf with ⟨-, pf, cf, rfl⟩ | ⟨b, o, cap, rfl, hb, -⟩
        · exact ⟨_, _, rfl⟩
        · exact ⟨_, _, rfl⟩
      have hg2 : ∃ pg cg, vb = .slice pg 0 cg := by
        rcases hg with ⟨-, pf, cf, rfl⟩ | ⟨b, o, cap, rfl, hb, -⟩
        · exact ⟨_, _, rfl⟩
        · exact ⟨_, _, rfl⟩
      obtain ⟨pf, cf, rfl⟩ := hf2
      obtain ⟨pg, cg, rfl⟩ := hg2
      clear hf hg
      rcases pf with _ | ⟨pb, po, ps⟩
      all_goals
        go_enter Try.func11, Try.ntmps11
        go_wp2_with fail
        (try (simp [go_sem, storeCells]; go_wp2_with fail))
        refine wp_loop_rounds 1 ?_
        rw [rounds_succ]
        go_wp2
        go_ret2
        exact ⟨⟨_, rfl, Or.inr ⟨w.heap.size, 0, 0, rfl, by simp, fun j hj => by omega⟩⟩, bel⟩
    · rcases hf with ⟨rfl, -⟩ | ⟨b, o, cap, rfl, hb, hf⟩
      · omega
      · rcases hg with ⟨rfl, -⟩ | ⟨b', o', cap', rfl, hb', hg⟩
        · omega
        · exact refBoth_at n b o cap b' o' cap' f g w ⟨by omega, hn⟩ hb hb' hf hg
  · rw [show bothLen n m = 0 from if_neg h, show bothErr n m = 2 from if_neg h]
    have q : ((n : Int) != m) = true := by simp; omega
    rcases hf with ⟨rfl, pf, cf, rfl⟩ | ⟨b, o, cap, rfl, hb, -⟩
    all_goals
      rcases hg with ⟨rfl, pg, cg, rfl⟩ | ⟨b', o', cap', rfl, hb', -⟩
      all_goals first
        | (exfalso; omega)
        | (clear h; go_enter Try.func11, Try.ntmps11; go_wp2; go_ret2; exact ⟨Gives.none, bel⟩)
end Go.Proofs.Ythdieladjnneoaa
