
import Derived.Test.YthdieladjnneoaaRows
import Derived.Test.YthdieladjnneoaaPortC
namespace Go.Proofs.Ythdieladjnneoaa
set_option linter.unusedVariables false
set_option linter.unusedSimpArgs false
open Go.ChangeShapes Go.WideShapes Go.RowKit

/-- What comes back: a slice of 'n' structs of two integers, and the error 'x'. -/
def Gives (n : Nat) (f : Nat → Int) (x : Int) (e : Ending) (w' : World) : Prop := ∃ v : Value, e = .returned (.tuple #[v, .int .i64 x]) ∧ Prs w' v n f
theorem Gives.none {f : Nat → Int} {x : Int} {w' : World} : Gives 0 f x (.returned (.tuple #[.slice none 0 0, .int .i64 x])) w' := ⟨_, rfl, Or.inl ⟨rfl, _, _, rfl⟩⟩
def takeErr (n : Int) (m : Nat) : Int := if Conf.right n = true then (if (m : Int) = n then 0 else 2) else 1
def takeLen (n : Int) (m : Nat) : Nat := if Conf.right n = true ∧ (m : Int) = n then m else 0
theorem refTake_any (n : Int) (v : Value) (m : Nat) (s : Nat → ByteArray) (w : World) (hm : m ≤ maxLen) (hf : Strs w v m s) :
    Calls Try.prog 9 #[.int .i64 n, v] w fun e w' => Gives (takeLen n m) (takeK s m) (takeErr n m) e w' ∧ Below w.heap.size w w' := by
  by_cases h : Conf.right n = true
  · obtain ⟨h3, h8⟩ := Conf.right_spec.1 h
    by_cases e : (m : Int) = n
    · subst e
      rw [show takeLen m m = m by unfold takeLen; rw [if_pos ⟨h, rfl⟩], show takeErr m m = 0 by unfold takeErr; rw [if_pos h, if_pos rfl]]
      rcases hf with ⟨rfl, -⟩ | ⟨b, o, cap, rfl, hb, hf⟩
      · omega
      · refine (refTake_at m b o cap s w (by omega) hb hf).mono ?_
        rintro e w' ⟨rfl, hI, hb2⟩
        exact ⟨⟨_, rfl, hI.prs⟩, hb2⟩
    · rw [show takeLen n m = 0 by unfold takeLen; rw [if_neg (fun q => e q.2)], show takeErr n m = 2 by unfold takeErr; rw [if_pos h, if_neg e]]
      have q : ((m : Int) != n) = true := by simp [e]
      rcases hf with ⟨rfl, pf, cf, rfl⟩ | ⟨b, o, cap, rfl, hb, -⟩
      all_goals
        clear e
        go_enter Try.func9, Try.ntmps9
        go_wp2_with fail
        refine (refCright_any _ _).mono ?_; rintro e w' ⟨rfl, rfl⟩
        rw [h]
        go_wp2
        go_ret2
        exact ⟨Gives.none, bel⟩
  · have h := Bool.eq_false_iff.2 h
    rw [show takeLen n m = 0 by unfold takeLen; rw [if_neg (fun q => by rw [h] at q; cases q.1)], show takeErr n m = 1 by unfold takeErr; rw [if_neg (by rw [h]; decide)]]
    rcases hf with ⟨rfl, pf, cf, rfl⟩ | ⟨b, o, cap, rfl, hb, -⟩
    all_goals
      go_enter Try.func9, Try.ntmps9
      go_wp2_with fail
      refine (refCright_any _ _).mono ?_; rintro e w' ⟨rfl, rfl⟩
      rw [h]
      go_wp2
      go_ret2
      exact ⟨Gives.none, bel⟩
end Go.Proofs.Ythdieladjnneoaa
