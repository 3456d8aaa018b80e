
import Derived.Test.YtijgabippedhpaaKit
import Derived.Test.YtijgabippedhpaaConf0
import Derived.Laws.MakeOwn
/-
  Slices of structs of two integers, as they lie in memory.
-/
namespace Go.Proofs.Ytijgabippedhpaa
set_option linter.unusedVariables false
set_option linter.unusedSimpArgs false
open Go.ChangeShapes Go.WideShapes Go.RowKit

/-- The value 'v' is a slice of 'n' structs of two integers (of none: whatever it points to): the integers 'f 0', 'f 1', .. -/
def Prs (w : World) (v : Value) (n : Nat) (f : Nat → Int) : Prop :=
  (n = 0 ∧ ∃ p c, v = .slice p 0 c) ∨ ∃ b o cap : Nat, v = .slice (some ⟨b, o, none⟩) n cap ∧ b < w.heap.size ∧ ∀ j, j < 2 * n → w.cell? ⟨b, o + j, none⟩ = some (.int .i64 (f j))
theorem Prs.below {w w' : World} {v : Value} {n : Nat} {f : Nat → Int} (h : Prs w v n f) (hb : Below w.heap.size w w') : Prs w' v n f := by
  rcases h with h | ⟨b, o, cap, rfl, hlt, h⟩
  · exact Or.inl h
  · exact Or.inr ⟨b, o, cap, rfl, Nat.lt_of_lt_of_le hlt hb.size, fun j hj => by rw [hb.cell (p := ⟨b, o + j, none⟩) hlt]; exact h j hj⟩
/-- Are they the same, one by one? -/
def sameB (n m : Nat) (f g : Nat → Int) : Bool := decide (n = m ∧ ∀ j, j < 2 * n → f j = g j)
theorem same_yes {n : Nat} {f g : Nat → Int} (h : ∀ j, j < 2 * n → f j = g j) : sameB n n f g = true := decide_eq_true ⟨rfl, h⟩
theorem same_no {n m : Nat} {f g : Nat → Int} (h : ¬ (n = m ∧ ∀ j, j < 2 * n → f j = g j)) : sameB n m f g = false := decide_eq_false h
/-- The value 'v' is a slice of 'n' strings. -/
def Strs (w : World) (v : Value) (n : Nat) (s : Nat → ByteArray) : Prop :=
  (n = 0 ∧ ∃ p c, v = .slice p 0 c) ∨ ∃ b o cap : Nat, v = .slice (some ⟨b, o, none⟩) n cap ∧ b < w.heap.size ∧ ∀ j, j < n → w.cell? ⟨b, o + j, none⟩ = some (.string (s j))
theorem Strs.below {w w' : World} {v : Value} {n : Nat} {s : Nat → ByteArray} (h : Strs w v n s) (hb : Below w.heap.size w w') : Strs w' v n s := by
  rcases h with h | ⟨b, o, cap, rfl, hlt, h⟩
  · exact Or.inl h
  · exact Or.inr ⟨b, o, cap, rfl, Nat.lt_of_lt_of_le hlt hb.size, fun j hj => by rw [hb.cell (p := ⟨b, o + j, none⟩) hlt]; exact h j hj⟩
theorem Prs.like {w : World} {v : Value} {n : Nat} {f g : Nat → Int} (h : Prs w v n f) (e : ∀ j, j < 2 * n → f j = g j) : Prs w v n g := by
  rcases h with h | ⟨b, o, cap, rfl, hlt, h⟩
  · exact Or.inl h
  · exact Or.inr ⟨b, o, cap, rfl, hlt, fun j hj => by rw [← e j hj]; exact h j hj⟩
theorem Prs.form {w : World} {v : Value} {n : Nat} {f : Nat → Int} (h : Prs w v n f) : ∃ p cap, v = .slice p n cap := by
  rcases h with ⟨rfl, p, c, rfl⟩ | ⟨b, o, cap, rfl, -, -⟩
  · exact ⟨_, _, rfl⟩
  · exact ⟨_, _, rfl⟩
theorem Strs.form {w : World} {v : Value} {n : Nat} {f : Nat → ByteArray} (h : Strs w v n f) : ∃ p cap, v = .slice p n cap := by
  rcases h with ⟨rfl, p, c, rfl⟩ | ⟨b, o, cap, rfl, -, -⟩
  · exact ⟨_, _, rfl⟩
  · exact ⟨_, _, rfl⟩
theorem Prs.some {w : World} {p : Option Addr} {n c : Nat} {f : Nat → Int} (h : Prs w (.slice p n c) n f) (hn : 0 < n) : ∃ b o, p = Option.some ⟨b, o, none⟩ ∧ b < w.heap.size ∧ ∀ j, j < 2 * n → w.cell? ⟨b, o + j, none⟩ = Option.some (.int .i64 (f j)) := by
  rcases h with ⟨h0, -⟩ | ⟨b, o, cap, e, hb, h⟩
  · omega
  · injection e with e _ _
    exact ⟨b, o, e, hb, h⟩
theorem two_cells {w wr : World} {b o n K : Nat} {f : Nat → Int} (h : ∀ j, j < 2 * n → w.cell? ⟨b, o + j, none⟩ = some (.int .i64 (f j))) (hb : Below w.heap.size w wr) (hlt : K < n) :
    wr.cell? ⟨b, o + K * 2, none⟩ = some (.int .i64 (f (K * 2))) ∧ wr.cell? ⟨b, o + K * 2 + 1, none⟩ = some (.int .i64 (f (K * 2 + 1))) := by
  have e0 := h (K * 2) (by omega)
  have e1 := h (K * 2 + 1) (by omega)
  exact ⟨by rw [hb.cell (block_lt_of_cell e0)]; exact e0, by rw [show o + K * 2 + 1 = o + (K * 2 + 1) by omega, hb.cell (block_lt_of_cell e1)]; exact e1⟩
/-- Block 'b' holds the integers 'f 0', .., 'f (n - 1)', and they may be written. -/
def Ints (w : World) (b n : Nat) (f : Nat → Int) : Prop := b < w.heap.size ∧ ∀ j, j < n → w.cell? ⟨b, j, none⟩ = some (.int .i64 (f j)) ∧ w.frozen? ⟨b, j, none⟩ = false
theorem Ints.made (w : World) (n : Nat) (t : TypeId) : Ints (w.alloc (.cells (madeCells #[.int .i64 0, .int .i64 0] n) t)) w.heap.size n (fun _ => 0) := by
  refine ⟨by simp, fun j hj => ⟨?_, World.frozen?_alloc_at _ t _ j rfl⟩⟩
  refine range_cell (range_new w (madeCells #[.int .i64 0, .int .i64 0] n) t) j ?_
  have h2 : j % 2 = 0 ∨ j % 2 = 1 := by omega
  rcases h2 with h2 | h2 <;> simp [madeCells, hj, h2]
theorem Ints.set {w : World} {b n : Nat} {f : Nat → Int} (h : Ints w b n f) (j0 : Nat) (x : Int) (hj0 : j0 < n) (g : Nat → Int) (hg : ∀ j, g j = if j = j0 then x else f j) :
    Ints (w.setCell ⟨b, j0, none⟩ (.int .i64 x)) b n g := by
  refine ⟨by simpa using h.1, fun j hj => ⟨?_, by rw [World.frozen?_setCell]; exact (h.2 j hj).2⟩⟩
  have hr : w.rangeAt b 0 ((List.range n).map fun j => Value.int .i64 (f j)) := fun i v hv => by
    have hi : i < n := by
      have := (List.getElem?_eq_some_iff.1 hv).1
      simpa using this
    rw [List.getElem?_map, List.getElem?_range hi] at hv
    simp at hv
    subst hv
    simpa using (h.2 i hi).1
  have h2 := range_put hr j0 (.int .i64 x) (ds := (List.range n).map fun j => Value.int .i64 (g j)) (by
    apply List.ext_getElem?
    intro i
    by_cases hi : i < n
    · by_cases e : i = j0
      · subst e
        simp [hi, hg]
      · rw [List.getElem?_set_ne (Ne.symm e), List.getElem?_map, List.getElem?_map, List.getElem?_range hi]
        simp [hg, e]
    · rw [List.getElem?_eq_none (by simp; omega), List.getElem?_eq_none (by simp; omega)])
  exact range_cell h2 j (by simp [hj])
theorem Ints.below {w w' : World} {b n : Nat} {f : Nat → Int} (h : Ints w b n f) (hb : Below w.heap.size w w') : Ints w' b n f :=
  ⟨Nat.lt_of_lt_of_le h.1 hb.size, fun j hj => ⟨by rw [hb.cell (p := ⟨b, j, none⟩) h.1]; exact (h.2 j hj).1, by rw [hb.frozen (p := ⟨b, j, none⟩) h.1]; exact (h.2 j hj).2⟩⟩
theorem Ints.alloc {w : World} {b n : Nat} {f : Nat → Int} (h : Ints w b n f) (o : Obj) : Ints (w.alloc o) b n f := h.below ((Below.refl _ w).alloc (Nat.le_refl _) o)
theorem Ints.drewN {w : World} {b n : Nat} {f : Nat → Int} (h : Ints w b n f) (k : Nat) : Ints (w.drewN k) b n f := h
/-- It reads as a slice of structs of two integers. -/
theorem Ints.prs {w : World} {b n cap : Nat} {f : Nat → Int} (h : Ints w b (2 * n) f) : Prs w (.slice (some ⟨b, 0, none⟩) n cap) n f :=
  Or.inr ⟨b, 0, cap, rfl, h.1, fun j hj => by rw [Nat.zero_add]; exact (h.2 j hj).1⟩
end Go.Proofs.Ytijgabippedhpaa
