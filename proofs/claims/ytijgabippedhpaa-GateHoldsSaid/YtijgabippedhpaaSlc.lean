
import Derived.Test.YtijgabippedhpaaPort0
import Derived.Test.YtijgabippedhpaaFlat
import Derived.Deep.SlicePairs
/-
  Plain laws of this verifier's own, over any program: an argument (or a cell of one) that is a slice of structs of two integers, or of strings, as it is read.
-/
namespace Go.Proofs.Ytijgabippedhpaa
set_option linter.unusedVariables false
set_option linter.unusedSimpArgs false
open Go.ChangeShapes Go.WideShapes Go.RowKit
open Go.Deep

section
variable {H : Type} {enc : TypeId × Value → H} {P : Program} {w : World} {spare : Nat → Bool} {held : Bool}

def numOf : Value → Int | .int _ a => a | _ => 0
def strOf : Value → ByteArray | .string s => s | _ => ByteArray.empty
theorem add_none (b o i : Nat) : (⟨b, o, none⟩ : Addr).add i = ⟨b, o + i, none⟩ := by
  unfold Addr.add
  split
  · subst_vars; rfl
  · rfl
/-- A slice of structs of two integers. -/
theorem prs_of {t e : TypeId} {f0 f1 : Field} {fuel : Nat} {v : Value} {x : DataW H × List MemPlace} (ht : P.underlying t = some (.slice e)) (he : P.underlying e = some (.struct #[f0, f1]))
    (ce : P.cellsOf e = 2) (o0 : f0.offset = 0) (o1 : f1.offset = 1) (c0 : P.cellsOf f0.type = 1) (c1 : P.cellsOf f1.type = 1)
    (k0 : P.underlying f0.type = some (.int .i64)) (k1 : P.underlying f1.type = some (.int .i64))
    (h : DataW.trod enc P w 0 spare held fuel t [v] = some x) : ∃ (n : Nat) (f : Nat → Int), n ≤ maxLen ∧ Prs w v n f ∧ ∀ j, j < 2 * n → -9223372036854775808 ≤ f j ∧ f j ≤ 9223372036854775807 := by
  rcases open_slice_pairs ht he ce o0 o1 c0 c1 h with ⟨h0, -⟩ | ⟨a, len, cap, m, n, V0, V1, D0, D1, P0, P1, hcs, -, hl, hm, hmm, -, hx⟩
  · simp only [List.cons.injEq, and_true] at h0
    exact ⟨0, fun _ => 0, Nat.zero_le _, Or.inl ⟨rfl, _, _, h0⟩, fun j hj => by omega⟩
  · simp only [List.cons.injEq, and_true] at hcs
    subst hcs
    have hlm : len ≤ m := by rw [hmm]; split <;> omega
    by_cases hl0 : len = 0
    · subst hl0
      exact ⟨0, fun _ => 0, Nat.zero_le _, Or.inl ⟨rfl, _, _, rfl⟩, fun j hj => by omega⟩
    · have h0 := (hx 0 (by omega)).1
      obtain ⟨b, o, sp⟩ := a
      obtain rfl : sp = none := by simpa [Addr.add] using World.cell?_spot h0
      have g : ∀ j, j < 2 * len → ∃ z : Int, (if j % 2 = 0 then V0 (j / 2) else V1 (j / 2)) = .int .i64 z ∧ w.cell? ⟨b, o + j, none⟩ = some (.int .i64 z) ∧ -9223372036854775808 ≤ z ∧ z ≤ 9223372036854775807 := by
        intro j hj
        obtain ⟨q0, q1, t0, t1⟩ := hx (j / 2) (by omega)
        rw [add_none] at q0 q1
        by_cases hp : j % 2 = 0
        · obtain ⟨z, h1, -, h3⟩ := DataW.trod_int k0 t0
          simp only [List.cons.injEq, and_true] at h1
          rw [if_pos hp, h1]
          rw [h1, show o + j / 2 * 2 = o + j by omega] at q0
          exact ⟨z, rfl, q0, bounds_i64 h3⟩
        · obtain ⟨z, h1, -, h3⟩ := DataW.trod_int k1 t1
          simp only [List.cons.injEq, and_true] at h1
          rw [if_neg hp, h1]
          rw [h1, show o + (j / 2 * 2 + 1) = o + j by omega] at q1
          exact ⟨z, rfl, q1, bounds_i64 h3⟩
      refine ⟨len, fun j => numOf (if j % 2 = 0 then V0 (j / 2) else V1 (j / 2)), Nat.le_trans hl hm, Or.inr ⟨b, o, cap, rfl, ?_, fun j hj => ?_⟩, fun j hj => ?_⟩
      · rw [add_none] at h0
        exact block_lt_of_cell h0
      · obtain ⟨z, e, hc, -⟩ := g j hj
        show _ = Option.some (Value.int .i64 (numOf _))
        rw [e]
        exact hc
      · obtain ⟨z, e, -, hb⟩ := g j hj
        show _ ≤ numOf _ ∧ numOf _ ≤ _
        rw [e]
        exact hb
/-- A slice of strings. -/
theorem strs_of {t e : TypeId} {fuel : Nat} {v : Value} {x : DataW H × List MemPlace} (ht : P.underlying t = some (.slice e)) (he : P.underlying e = some .string) (ce : P.cellsOf e = 1)
    (h : DataW.trod enc P w 0 spare held fuel t [v] = some x) : ∃ (n : Nat) (s : Nat → ByteArray), n ≤ maxLen ∧ Strs w v n s ∧ ∀ j, j < n → (s j).size ≤ maxLen := by
  rcases open_slice1 ht ce h with ⟨h0, -⟩ | ⟨a, len, cap, m, n, V, D, Pl, hcs, -, hl, hm, hmm, -, hx⟩
  · simp only [List.cons.injEq, and_true] at h0
    exact ⟨0, fun _ => ByteArray.empty, Nat.zero_le _, Or.inl ⟨rfl, _, _, h0⟩, fun j hj => by omega⟩
  · simp only [List.cons.injEq, and_true] at hcs
    subst hcs
    have hlm : len ≤ m := by rw [hmm]; split <;> omega
    by_cases hl0 : len = 0
    · subst hl0
      exact ⟨0, fun _ => ByteArray.empty, Nat.zero_le _, Or.inl ⟨rfl, _, _, rfl⟩, fun j hj => by omega⟩
    · have h0 := (hx 0 (by omega)).1
      obtain ⟨b, o, sp⟩ := a
      obtain rfl : sp = none := by simpa [Addr.add] using World.cell?_spot h0
      have g : ∀ j, j < len → ∃ z : ByteArray, V j = .string z ∧ w.cell? ⟨b, o + j, none⟩ = some (.string z) ∧ z.size ≤ maxLen := by
        intro j hj
        obtain ⟨q0, t0⟩ := hx j (by omega)
        rw [add_none] at q0
        obtain ⟨z, h1, -, h3⟩ := DataW.trod_string he t0
        simp only [List.cons.injEq, and_true] at h1
        rw [h1] at q0
        exact ⟨z, h1, q0, h3⟩
      refine ⟨len, fun j => strOf (V j), Nat.le_trans hl hm, Or.inr ⟨b, o, cap, rfl, ?_, fun j hj => ?_⟩, fun j hj => ?_⟩
      · rw [add_none] at h0
        exact block_lt_of_cell h0
      · obtain ⟨z, e, hc, -⟩ := g j hj
        show _ = Option.some (Value.string (strOf _))
        rw [e]
        exact hc
      · obtain ⟨z, e, -, hb⟩ := g j hj
        show (strOf _).size ≤ _
        rw [e]
        exact hb
end
end Go.Proofs.Ytijgabippedhpaa
