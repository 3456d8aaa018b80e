
import Derived.Test.YtijgabippedhpaaRows
import Derived.Test.YtijgabippedhpaaVoteH
import Derived.Test.YtijgabippedhpaaVote1
namespace Go.Proofs.Ytijgabippedhpaa
set_option linter.unusedVariables false
set_option linter.unusedSimpArgs false
open Go.ChangeShapes Go.WideShapes Go.RowKit

theorem Ints.set12 {w : World} {b : Nat} {f : Nat → Int} (h : Ints w b 12 f) (g : Nat → Int) : Ints (((((((((((((w).setCell ⟨b, 0, none⟩ (.int .i64 (g 0))).setCell ⟨b, 1, none⟩ (.int .i64 (g 1))).setCell ⟨b, 2, none⟩ (.int .i64 (g 2))).setCell ⟨b, 3, none⟩ (.int .i64 (g 3))).setCell ⟨b, 4, none⟩ (.int .i64 (g 4))).setCell ⟨b, 5, none⟩ (.int .i64 (g 5))).setCell ⟨b, 6, none⟩ (.int .i64 (g 6))).setCell ⟨b, 7, none⟩ (.int .i64 (g 7))).setCell ⟨b, 8, none⟩ (.int .i64 (g 8))).setCell ⟨b, 9, none⟩ (.int .i64 (g 9))).setCell ⟨b, 10, none⟩ (.int .i64 (g 10))).setCell ⟨b, 11, none⟩ (.int .i64 (g 11))) b 12 g := by
  refine Ints.like (Ints.set (Ints.set (Ints.set (Ints.set (Ints.set (Ints.set (Ints.set (Ints.set (Ints.set (Ints.set (Ints.set (Ints.set h 0 (g 0) (by decide) (fun j => if j = 0 then g 0 else f j) (fun j => rfl)) 1 (g 1) (by decide) (fun j => if j = 1 then g 1 else if j = 0 then g 0 else f j) (fun j => rfl)) 2 (g 2) (by decide) (fun j => if j = 2 then g 2 else if j = 1 then g 1 else if j = 0 then g 0 else f j) (fun j => rfl)) 3 (g 3) (by decide) (fun j => if j = 3 then g 3 else if j = 2 then g 2 else if j = 1 then g 1 else if j = 0 then g 0 else f j) (fun j => rfl)) 4 (g 4) (by decide) (fun j => if j = 4 then g 4 else if j = 3 then g 3 else if j = 2 then g 2 else if j = 1 then g 1 else if j = 0 then g 0 else f j) (fun j => rfl)) 5 (g 5) (by decide) (fun j => if j = 5 then g 5 else if j = 4 then g 4 else if j = 3 then g 3 else if j = 2 then g 2 else if j = 1 then g 1 else if j = 0 then g 0 else f j) (fun j => rfl)) 6 (g 6) (by decide) (fun j => if j = 6 then g 6 else if j = 5 then g 5 else if j = 4 then g 4 else if j = 3 then g 3 else if j = 2 then g 2 else if j = 1 then g 1 else if j = 0 then g 0 else f j) (fun j => rfl)) 7 (g 7) (by decide) (fun j => if j = 7 then g 7 else if j = 6 then g 6 else if j = 5 then g 5 else if j = 4 then g 4 else if j = 3 then g 3 else if j = 2 then g 2 else if j = 1 then g 1 else if j = 0 then g 0 else f j) (fun j => rfl)) 8 (g 8) (by decide) (fun j => if j = 8 then g 8 else if j = 7 then g 7 else if j = 6 then g 6 else if j = 5 then g 5 else if j = 4 then g 4 else if j = 3 then g 3 else if j = 2 then g 2 else if j = 1 then g 1 else if j = 0 then g 0 else f j) (fun j => rfl)) 9 (g 9) (by decide) (fun j => if j = 9 then g 9 else if j = 8 then g 8 else if j = 7 then g 7 else if j = 6 then g 6 else if j = 5 then g 5 else if j = 4 then g 4 else if j = 3 then g 3 else if j = 2 then g 2 else if j = 1 then g 1 else if j = 0 then g 0 else f j) (fun j => rfl)) 10 (g 10) (by decide) (fun j => if j = 10 then g 10 else if j = 9 then g 9 else if j = 8 then g 8 else if j = 7 then g 7 else if j = 6 then g 6 else if j = 5 then g 5 else if j = 4 then g 4 else if j = 3 then g 3 else if j = 2 then g 2 else if j = 1 then g 1 else if j = 0 then g 0 else f j) (fun j => rfl)) 11 (g 11) (by decide) (fun j => if j = 11 then g 11 else if j = 10 then g 10 else if j = 9 then g 9 else if j = 8 then g 8 else if j = 7 then g 7 else if j = 6 then g 6 else if j = 5 then g 5 else if j = 4 then g 4 else if j = 3 then g 3 else if j = 2 then g 2 else if j = 1 then g 1 else if j = 0 then g 0 else f j) (fun j => rfl)) (fun j hj => ?_)
  rcases twelve hj with rfl | rfl | rfl | rfl | rfl | rfl | rfl | rfl | rfl | rfl | rfl | rfl <;> rfl
theorem Ints.other12 {w : World} {b' n : Nat} {f : Nat → Int} (h : Ints w b' n f) (b : Nat) (g : Nat → Int) (hb : b ≠ b') : Ints (((((((((((((w).setCell ⟨b, 0, none⟩ (.int .i64 (g 0))).setCell ⟨b, 1, none⟩ (.int .i64 (g 1))).setCell ⟨b, 2, none⟩ (.int .i64 (g 2))).setCell ⟨b, 3, none⟩ (.int .i64 (g 3))).setCell ⟨b, 4, none⟩ (.int .i64 (g 4))).setCell ⟨b, 5, none⟩ (.int .i64 (g 5))).setCell ⟨b, 6, none⟩ (.int .i64 (g 6))).setCell ⟨b, 7, none⟩ (.int .i64 (g 7))).setCell ⟨b, 8, none⟩ (.int .i64 (g 8))).setCell ⟨b, 9, none⟩ (.int .i64 (g 9))).setCell ⟨b, 10, none⟩ (.int .i64 (g 10))).setCell ⟨b, 11, none⟩ (.int .i64 (g 11))) b' n f :=
  ((((((((((((h).other b 0 (.int .i64 (g 0)) hb).other b 1 (.int .i64 (g 1)) hb).other b 2 (.int .i64 (g 2)) hb).other b 3 (.int .i64 (g 3)) hb).other b 4 (.int .i64 (g 4)) hb).other b 5 (.int .i64 (g 5)) hb).other b 6 (.int .i64 (g 6)) hb).other b 7 (.int .i64 (g 7)) hb).other b 8 (.int .i64 (g 8)) hb).other b 9 (.int .i64 (g 9)) hb).other b 10 (.int .i64 (g 10)) hb).other b 11 (.int .i64 (g 11)) hb
theorem hub_eq (f g : Nat → Int) (w : World) : (Op.equalIn 9999 22 (.agg #[.int .i64 (f 0), .int .i64 (f 1), .int .i64 (f 2), .int .i64 (f 3), .int .i64 (f 4), .int .i64 (f 5), .int .i64 (f 6), .int .i64 (f 7)]) (.agg #[.int .i64 (g 0), .int .i64 (g 1), .int .i64 (g 2), .int .i64 (g 3), .int .i64 (g 4), .int .i64 (g 5), .int .i64 (g 6), .int .i64 (g 7)])).run Try.prog w = .ok (eq8 f g) w := by
  have h : (Try.prog.info? 3).isSome = true := by kernel_rfl
  obtain ⟨i, hi⟩ := Option.isSome_iff_exists.1 h
  exact eq_arr8 f g Try.underlying22 hi Try.underlying3 (by kernel_rfl) w
theorem hub_index (f : Nat → Int) {K : Nat} (hK : K < 8) (w : World) : (Instr.index 22 (.agg #[.int .i64 (f 0), .int .i64 (f 1), .int .i64 (f 2), .int .i64 (f 3), .int .i64 (f 4), .int .i64 (f 5), .int .i64 (f 6), .int .i64 (f 7)]) (.int .i64 K)).run Try.prog w = .ok (.int .i64 (f K)) w := by
  have h : (Try.prog.info? 3).isSome = true := by kernel_rfl
  obtain ⟨i, hi⟩ := Option.isSome_iff_exists.1 h
  exact arr8_index f Try.underlying22 hi Try.underlying3 (by kernel_rfl) hK w
theorem hub_same (f : Nat → Int) (w : World) : (Op.equalIn 9999 22 (.agg #[.int .i64 (f 0), .int .i64 (f 1), .int .i64 (f 2), .int .i64 (f 3), .int .i64 (f 4), .int .i64 (f 5), .int .i64 (f 6), .int .i64 (f 7)]) (.agg #[.int .i64 (f 0), .int .i64 (f 1), .int .i64 (f 2), .int .i64 (f 3), .int .i64 (f 4), .int .i64 (f 5), .int .i64 (f 6), .int .i64 (f 7)])).run Try.prog w = .ok true w := by
  rw [hub_eq, eq8_self]
def Bd (x : Int) : Prop := -9223372036854775808 ≤ x ∧ x ≤ 9223372036854775807
def Bd12 (f : Nat → Int) : Prop := ∀ j : Nat, j < 12 → -9223372036854775808 ≤ f j ∧ f j ≤ 9223372036854775807
theorem ok_bd {n : Int} {f : Nat → Int} (h : Vote.Ok n f) : Bd12 f := by
  obtain ⟨h38, hA, h8, h9, h10, h11⟩ := h
  intro j hj
  by_cases h : j < 8
  · have := hA j h
    have := Vote.most_in h38 j
    omega
  · have h4 : j = 8 ∨ j = 9 ∨ j = 10 ∨ j = 11 := by omega
    rcases h4 with rfl | rfl | rfl | rfl <;> omega
theorem fresh_bd (n : Int) : Bd12 (Vote.fresh n) := by
  intro j hj
  unfold Vote.fresh
  by_cases h : Conf.right n = true
  · have := Conf.right_spec.1 h
    have := Vote.most_in this j
    rw [if_pos h]
    (repeat split) <;> omega
  · rw [if_neg h]; omega
/-! What the program's calls must answer. -/
def CClean : Prop := ∀ (n : Int) (f : Nat → Int) (w : World), Bd n → Bd12 f → Calls Try.prog 35 #[.int .i64 n, .agg #[.int .i64 (f 0), .int .i64 (f 1), .int .i64 (f 2), .int .i64 (f 3), .int .i64 (f 4), .int .i64 (f 5), .int .i64 (f 6), .int .i64 (f 7), .int .i64 (f 8), .int .i64 (f 9), .int .i64 (f 10), .int .i64 (f 11)]] w fun e w' => e = .returned (.tuple #[.agg #[.int .i64 (Vote.clean n f 0), .int .i64 (Vote.clean n f 1), .int .i64 (Vote.clean n f 2), .int .i64 (Vote.clean n f 3), .int .i64 (Vote.clean n f 4), .int .i64 (Vote.clean n f 5), .int .i64 (Vote.clean n f 6), .int .i64 (Vote.clean n f 7), .int .i64 (Vote.clean n f 8), .int .i64 (Vote.clean n f 9), .int .i64 (Vote.clean n f 10), .int .i64 (Vote.clean n f 11)], .int .i64 (Vote.err n)]) ∧ Below w.heap.size w w'
def CRight : Prop := ∀ (n : Int) (f : Nat → Int) (w : World), Bd n → Bd12 f → Calls Try.prog 23 #[.int .i64 n, .agg #[.int .i64 (f 0), .int .i64 (f 1), .int .i64 (f 2), .int .i64 (f 3), .int .i64 (f 4), .int .i64 (f 5), .int .i64 (f 6), .int .i64 (f 7), .int .i64 (f 8), .int .i64 (f 9), .int .i64 (f 10), .int .i64 (f 11)]] w fun e w' => e = .returned (.bool (Vote.ok n f)) ∧ Below w.heap.size w w'
def CVotes : Prop := ∀ (n : Int) (f : Nat → Int) (v : Int) (w : World), Bd n → Bd12 f → Bd v → Calls Try.prog 24 #[.int .i64 n, .agg #[.int .i64 (f 0), .int .i64 (f 1), .int .i64 (f 2), .int .i64 (f 3), .int .i64 (f 4), .int .i64 (f 5), .int .i64 (f 6), .int .i64 (f 7), .int .i64 (f 8), .int .i64 (f 9), .int .i64 (f 10), .int .i64 (f 11)], .int .i64 v] w fun e w' => e = .returned (.int .i64 (Vote.votes n f v : Nat)) ∧ Below w.heap.size w w'
def CBest : Prop := ∀ (n : Int) (f : Nat → Int) (w : World), Bd n → Bd12 f → Calls Try.prog 25 #[.int .i64 n, .agg #[.int .i64 (f 0), .int .i64 (f 1), .int .i64 (f 2), .int .i64 (f 3), .int .i64 (f 4), .int .i64 (f 5), .int .i64 (f 6), .int .i64 (f 7), .int .i64 (f 8), .int .i64 (f 9), .int .i64 (f 10), .int .i64 (f 11)]] w fun e w' => e = .returned (.tuple #[.int .i64 (Vote.best n f : Nat), .int .i64 (Vote.bestVotes n f : Nat)]) ∧ Below w.heap.size w w'
end Go.Proofs.Ytijgabippedhpaa
