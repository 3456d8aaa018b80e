
import Derived.Test.YtijgabippedhpaaPort0
import Derived.Test.YtijgabippedhpaaVote0
import Derived.ChangeKeysEq
import Derived.Laws.StructEq
/-
  A hub as it lies in memory: twelve integers.
-/
namespace Go.Proofs.Ytijgabippedhpaa
set_option linter.unusedVariables false
set_option linter.unusedSimpArgs false
open Go.ChangeShapes Go.WideShapes Go.RowKit

theorem twelve {j : Nat} (h : j < 12) : j = 0 ∨ j = 1 ∨ j = 2 ∨ j = 3 ∨ j = 4 ∨ j = 5 ∨ j = 6 ∨ j = 7 ∨ j = 8 ∨ j = 9 ∨ j = 10 ∨ j = 11 := by omega
theorem Ints.box (w : World) (f : Nat → Int) (t : TypeId) : Ints (w.alloc (.cells #[.int .i64 (f 0), .int .i64 (f 1), .int .i64 (f 2), .int .i64 (f 3), .int .i64 (f 4), .int .i64 (f 5), .int .i64 (f 6), .int .i64 (f 7), .int .i64 (f 8), .int .i64 (f 9), .int .i64 (f 10), .int .i64 (f 11)] t)) w.heap.size 12 f := by
  refine ⟨by simp, fun j hj => ⟨?_, World.frozen?_alloc_at _ t _ j rfl⟩⟩
  refine range_cell (range_new w #[.int .i64 (f 0), .int .i64 (f 1), .int .i64 (f 2), .int .i64 (f 3), .int .i64 (f 4), .int .i64 (f 5), .int .i64 (f 6), .int .i64 (f 7), .int .i64 (f 8), .int .i64 (f 9), .int .i64 (f 10), .int .i64 (f 11)] t) j ?_
  rcases twelve hj with rfl | rfl | rfl | rfl | rfl | rfl | rfl | rfl | rfl | rfl | rfl | rfl <;> rfl
theorem Ints.zeros (w : World) (t : TypeId) : Ints (w.alloc (.cells #[.int .i64 ((fun _ => (0 : Int)) 0), .int .i64 ((fun _ => (0 : Int)) 1), .int .i64 ((fun _ => (0 : Int)) 2), .int .i64 ((fun _ => (0 : Int)) 3), .int .i64 ((fun _ => (0 : Int)) 4), .int .i64 ((fun _ => (0 : Int)) 5), .int .i64 ((fun _ => (0 : Int)) 6), .int .i64 ((fun _ => (0 : Int)) 7), .int .i64 ((fun _ => (0 : Int)) 8), .int .i64 ((fun _ => (0 : Int)) 9), .int .i64 ((fun _ => (0 : Int)) 10), .int .i64 ((fun _ => (0 : Int)) 11)] t)) w.heap.size 12 (fun _ => 0) := Ints.box w (fun _ => 0) t
theorem Ints.row12 {w : World} {b : Nat} {f : Nat → Int} (h : Ints w b 12 f) : w.rangeAt b 0 [.int .i64 (f 0), .int .i64 (f 1), .int .i64 (f 2), .int .i64 (f 3), .int .i64 (f 4), .int .i64 (f 5), .int .i64 (f 6), .int .i64 (f 7), .int .i64 (f 8), .int .i64 (f 9), .int .i64 (f 10), .int .i64 (f 11)] := by
  intro j v hj
  have hj2 : j < 12 := by
    have := (List.getElem?_eq_some_iff.1 hj).1
    simpa using this
  have e := (h.2 j hj2).1
  rw [Nat.zero_add]
  rw [e]
  rcases twelve hj2 with rfl | rfl | rfl | rfl | rfl | rfl | rfl | rfl | rfl | rfl | rfl | rfl <;> exact hj
theorem Ints.other {w : World} {b n : Nat} {f : Nat → Int} (h : Ints w b n f) (b' j : Nat) (v : Value) (hb : b' ≠ b) : Ints (w.setCell ⟨b', j, none⟩ v) b n f :=
  ⟨by simpa using h.1, fun i hi => ⟨by rw [World.cell?_setCell_other _ _ _ _ (by intro e; injection e with e; exact hb e)]; exact (h.2 i hi).1, by rw [World.frozen?_setCell]; exact (h.2 i hi).2⟩⟩
theorem Ints.like {w : World} {b n : Nat} {f g : Nat → Int} (h : Ints w b n f) (e : ∀ j, j < n → f j = g j) : Ints w b n g :=
  ⟨h.1, fun j hj => by rw [← e j hj]; exact h.2 j hj⟩
/-- Two arrays of eight integers, compared. -/
def eq8 (f g : Nat → Int) : Bool := f 0 == g 0 && (f 1 == g 1 && (f 2 == g 2 && (f 3 == g 3 && (f 4 == g 4 && (f 5 == g 5 && (f 6 == g 6 && f 7 == g 7))))))
theorem eq_arr8 {P : Program} {t e : TypeId} {i : TypeInfo} (f g : Nat → Int) (hu : P.underlying t = some (.array 8 e)) (hi : P.info? e = some i) (he : P.underlying e = some (.int .i64)) (hc : P.cellsOf e = 1) (w : World) :
    (Op.equalIn 9999 t (.agg #[.int .i64 (f 0), .int .i64 (f 1), .int .i64 (f 2), .int .i64 (f 3), .int .i64 (f 4), .int .i64 (f 5), .int .i64 (f 6), .int .i64 (f 7)]) (.agg #[.int .i64 (g 0), .int .i64 (g 1), .int .i64 (g 2), .int .i64 (g 3), .int .i64 (g 4), .int .i64 (g 5), .int .i64 (g 6), .int .i64 (g 7)])).run P w = .ok (eq8 f g) w := by
  rw [show (9999 : Nat) = 9998 + 1 from rfl, run_equalIn_array w 9998 _ _ hu hi, hc]
  show (Op.eqItems 9998 e 1 _ _ [0, 1, 2, 3, 4, 5, 6, 7]).run P w = _
  rw [show (9998 : Nat) = 9997 + 1 from rfl]
  unfold eq8
  simp only [Op.eqItems, part, isAgg, run_underlying he, Sem.run_bind, Sem.run_pure, Result.andThen_ok]
  simp [run_equalIn_int _ _ _ _ _ _ _ he, run_underlying he]
  by_cases h0 : f 0 = g 0
  case neg => simp [h0]
  simp only [h0, if_true, beq_self_eq_true, Bool.true_and]
  by_cases h1 : f 1 = g 1
  case neg => simp [h1]
  simp only [h1, if_true, beq_self_eq_true, Bool.true_and]
  by_cases h2 : f 2 = g 2
  case neg => simp [h2]
  simp only [h2, if_true, beq_self_eq_true, Bool.true_and]
  by_cases h3 : f 3 = g 3
  case neg => simp [h3]
  simp only [h3, if_true, beq_self_eq_true, Bool.true_and]
  by_cases h4 : f 4 = g 4
  case neg => simp [h4]
  simp only [h4, if_true, beq_self_eq_true, Bool.true_and]
  by_cases h5 : f 5 = g 5
  case neg => simp [h5]
  simp only [h5, if_true, beq_self_eq_true, Bool.true_and]
  by_cases h6 : f 6 = g 6
  case neg => simp [h6]
  simp only [h6, if_true, beq_self_eq_true, Bool.true_and]
  by_cases h7 : f 7 = g 7
  case neg => simp [h7]
  simp only [h7, if_true, beq_self_eq_true, Bool.true_and]
theorem arr8_at (f : Nat → Int) {K : Nat} (h : K < 8) : (#[.int .i64 (f 0), .int .i64 (f 1), .int .i64 (f 2), .int .i64 (f 3), .int .i64 (f 4), .int .i64 (f 5), .int .i64 (f 6), .int .i64 (f 7)] : Array Value)[K]? = some (.int .i64 (f K)) := by
  have h8 : K = 0 ∨ K = 1 ∨ K = 2 ∨ K = 3 ∨ K = 4 ∨ K = 5 ∨ K = 6 ∨ K = 7 := by omega
  rcases h8 with rfl | rfl | rfl | rfl | rfl | rfl | rfl | rfl <;> rfl
/-- An array of eight integers, read at a variable place. -/
theorem arr8_index {P : Program} {t e : TypeId} {i : TypeInfo} (f : Nat → Int) (hu : P.underlying t = some (.array 8 e)) (hi : P.info? e = some i) (he : P.underlying e = some (.int .i64)) (hc : P.cellsOf e = 1) {K : Nat} (hK : K < 8) (w : World) :
    (Instr.index t (.agg #[.int .i64 (f 0), .int .i64 (f 1), .int .i64 (f 2), .int .i64 (f 3), .int .i64 (f 4), .int .i64 (f 5), .int .i64 (f 6), .int .i64 (f 7)]) (.int .i64 K)).run P w = .ok (.int .i64 (f K)) w := by
  have h1 : 0 ≤ (K : Int) ∧ (K : Int) < (8 : Nat) := by omega
  simp only [Instr.index, asIntOf, Sem.run_bind, Sem.run_pure, Result.andThen_ok, run_underlying hu, run_sizeOf w hi, if_pos h1, hc, part, isAgg, run_underlying he, Int.toNat_natCast, Nat.mul_one]
  simp [arr8_at f hK]
theorem eq8_self (f : Nat → Int) : eq8 f f = true := by simp [eq8]
end Go.Proofs.Ytijgabippedhpaa
