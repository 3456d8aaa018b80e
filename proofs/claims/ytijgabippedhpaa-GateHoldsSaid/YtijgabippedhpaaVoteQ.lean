
import Derived.Test.YtijgabippedhpaaRows
import Derived.Test.YtijgabippedhpaaVoteP
namespace Go.Proofs.Ytijgabippedhpaa
set_option linter.unusedVariables false
set_option linter.unusedSimpArgs false
open Go.ChangeShapes Go.WideShapes Go.RowKit

/-- Which of the ages stands there. -/
def idx (j : Nat) : Nat := if j = 9 then 8 else if j < 8 then j else 100
theorem idx_pl {K : Nat} (h : K < 9) : idx (pl K) = K := by
  unfold idx pl
  by_cases e : K = 8
  · rw [if_pos e, if_pos rfl, e]
  · rw [if_neg e, if_neg (by omega), if_pos (by omega)]
theorem pl_idx {K j : Nat} (h : K < 9) (e : idx j = K) : j = pl K := by
  unfold idx at e
  unfold pl
  by_cases e9 : j = 9
  · rw [if_pos e9] at e; rw [if_pos e.symm, e9]
  · rw [if_neg e9] at e
    by_cases e8 : j < 8
    · rw [if_pos e8] at e; rw [if_neg (by omega), e]
    · rw [if_neg e8] at e; omega
theorem pl_lt {K : Nat} (h : K < 9) : pl K < 12 := by unfold pl; split <;> omega
/-- A hub, when the first 'K' of its ages are new. -/
def stK (new old : Nat → Int) (K j : Nat) : Int := if idx j < K then new j else old j
theorem stK_zero (new old : Nat → Int) : stK new old 0 = old := by funext j; exact if_neg (by omega)
theorem stK_at (new old : Nat → Int) {K : Nat} (h : K < 9) : stK new old K (pl K) = old (pl K) := if_neg (by rw [idx_pl h]; omega)
theorem stK_next (new old : Nat → Int) {K : Nat} (h : K < 9) (j : Nat) : stK new old (K + 1) j = if j = pl K then new (pl K) else stK new old K j := by
  unfold stK
  by_cases e : j = pl K
  · rw [if_pos e, if_pos (by rw [e, idx_pl h]; omega), e]
  · rw [if_neg e]
    by_cases e2 : idx j < K
    · rw [if_pos e2, if_pos (by omega)]
    · rw [if_neg e2, if_neg (fun q => e (pl_idx h (by omega)))]
theorem stK_end (new old : Nat → Int) (j : Nat) : stK new old 9 j = if j < 8 then new j else if j = 9 then new 9 else old j := by
  unfold stK idx
  by_cases e : j < 8
  · rw [if_pos e, if_neg (show ¬ j = 9 by omega), if_pos e, if_pos (show j < 9 by omega)]
  · rw [if_neg e, if_neg e]
    by_cases e9 : j = 9
    · rw [if_pos e9, if_pos (by decide), if_pos e9, e9]
    · rw [if_neg e9, if_neg (by omega), if_neg e9]
theorem ms_port (n : Int) {j : Nat} (h : j < 8) : ms n (idx j) = Vote.most n j := by
  unfold ms idx
  rw [if_neg (show ¬ j = 9 by omega), if_pos h, if_neg (by omega)]
theorem ms_cs (n : Int) : ms n (idx 9) = 2 * n + 1 := rfl
theorem fresh_end {n : Int} (h : Conf.right n = true) (j : Nat) : stK (fun j => ms n (idx j)) (fun _ => 0) 9 j = Vote.fresh n j := by
  rw [stK_end]
  unfold Vote.fresh
  rw [if_pos h]
  by_cases e : j < 8
  · rw [if_pos e, if_pos e, ms_port n e]
  · rw [if_neg e, if_neg e]
    by_cases e9 : j = 9
    · rw [if_pos e9, if_pos e9, ms_cs]
    · rw [if_neg e9, if_neg e9]
theorem two_new (w : World) (u v : Value) (t : TypeId) : (w.alloc (.cells #[u, v] t)).cell? ⟨w.heap.size, 0, none⟩ = some u ∧ (w.alloc (.cells #[u, v] t)).cell? ⟨w.heap.size, 1, none⟩ = some v :=
  ⟨range_cell (range_new w #[u, v] t) 0 rfl, range_cell (range_new w #[u, v] t) 1 rfl⟩
end Go.Proofs.Ytijgabippedhpaa
