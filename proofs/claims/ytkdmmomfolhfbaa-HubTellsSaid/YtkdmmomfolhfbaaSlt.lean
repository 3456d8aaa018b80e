
import Derived.Test.YtkdmmomfolhfbaaMem
import Derived.Test.YtkdmmomfolhfbaaHubE
/-
  An argument that is a slice of slices of structs of two integers, as it is read.
-/
namespace Go.Proofs.Ytkdmmomfolhfbaa
set_option linter.unusedVariables false
set_option linter.unusedSimpArgs false
open Go.ChangeShapes Go.WideShapes Go.RowKit
open Go.Deep

section
variable {H : Type} {enc : TypeId × Value → H} {P : Program} {w : World} {spare : Nat → Bool} {held : Bool}
theorem tks_of {t s e : TypeId} {f0 f1 : Field} {fuel : Nat} {v : Value} {x : DataW H × List MemPlace} (ht : P.underlying t = some (.slice s)) (hs : P.underlying s = some (.slice e)) (cs : P.cellsOf s = 1) (he : P.underlying e = some (.struct #[f0, f1]))
    (ce : P.cellsOf e = 2) (o0 : f0.offset = 0) (o1 : f1.offset = 1) (c0 : P.cellsOf f0.type = 1) (c1 : P.cellsOf f1.type = 1)
    (k0 : P.underlying f0.type = some (.int .i64)) (k1 : P.underlying f1.type = some (.int .i64))
    (h : DataW.trod enc P w 0 spare held fuel t [v] = some x) : ∃ (n : Nat) (len : Nat → Nat) (f : Nat → Nat → Int), n ≤ maxLen ∧ Tks w v n len f ∧ (∀ i, i < n → len i ≤ maxLen) ∧ ∀ i, i < n → ∀ j, j < 2 * len i → -9223372036854775808 ≤ f i j ∧ f i j ≤ 9223372036854775807 := by
  rcases open_slice1 ht cs h with ⟨h0, -⟩ | ⟨a, len, cap, m, n, V, D, Pl, hcs, -, hl, hm, hmm, -, hx⟩
  · simp only [List.cons.injEq, and_true] at h0
    exact ⟨0, fun _ => 0, fun _ _ => 0, Nat.zero_le _, Or.inl ⟨rfl, _, _, h0⟩, fun j hj => by omega, fun j hj => by omega⟩
  · simp only [List.cons.injEq, and_true] at hcs
    subst hcs
    have hlm : len ≤ m := by rw [hmm]; split <;> omega
    by_cases hl0 : len = 0
    · subst hl0
      exact ⟨0, fun _ => 0, fun _ _ => 0, Nat.zero_le _, Or.inl ⟨rfl, _, _, rfl⟩, fun j hj => by omega, fun j hj => by omega⟩
    · have h0 := (hx 0 (by omega)).1
      obtain ⟨b, o, sp⟩ := a
      obtain rfl : sp = none := by simpa [Addr.add] using World.cell?_spot h0
      have g : ∀ i, ∃ q : Nat × (Nat → Int), i < len → q.1 ≤ maxLen ∧ (w.cell? ⟨b, o + i, none⟩ = some (V i) ∧ Prs w (V i) q.1 q.2) ∧ ∀ j, j < 2 * q.1 → -9223372036854775808 ≤ q.2 j ∧ q.2 j ≤ 9223372036854775807 := by
        intro i
        by_cases hi : i < len
        · obtain ⟨q0, t0⟩ := hx i (by omega)
          rw [add_none] at q0
          obtain ⟨n, f, h1, h2, h3⟩ := prs_of hs he ce o0 o1 c0 c1 k0 k1 t0
          exact ⟨(n, f), fun _ => ⟨h1, ⟨q0, h2⟩, h3⟩⟩
        · exact ⟨(0, fun _ => 0), fun q => absurd q hi⟩
      obtain ⟨F, hF⟩ := Classical.skolem.1 g
      refine ⟨len, fun i => (F i).1, fun i => (F i).2, Nat.le_trans hl hm, Or.inr ⟨b, o, cap, rfl, ?_, fun i hi => ⟨V i, (hF i hi).2.1.1, (hF i hi).2.1.2⟩⟩, fun i hi => (hF i hi).1, fun i hi => (hF i hi).2.2⟩
      rw [add_none] at h0
      exact block_lt_of_cell h0
end
end Go.Proofs.Ytkdmmomfolhfbaa
