
import Derived.Test.YtijgabippedhpaaPort0
/-
  Blocks of values of any kind, as they lie in memory: read and written in parts (plain laws of this verifier's own).
-/
namespace Go.Proofs.Ytijgabippedhpaa
set_option linter.unusedVariables false
set_option linter.unusedSimpArgs false
open Go.ChangeShapes Go.WideShapes Go.RowKit

/-- Block 'b' holds the values 'g 0', .., 'g (n - 1)', and they may be written. -/
def Vls (w : World) (b n : Nat) (g : Nat → Value) : Prop := b < w.heap.size ∧ ∀ j, j < n → w.cell? ⟨b, j, none⟩ = some (g j) ∧ w.frozen? ⟨b, j, none⟩ = false
theorem Vls.set {w : World} {b n : Nat} {f : Nat → Value} (h : Vls w b n f) (j0 : Nat) (x : Value) (hj0 : j0 < n) (g : Nat → Value) (hg : ∀ j, g j = if j = j0 then x else f j) :
    Vls (w.setCell ⟨b, j0, none⟩ x) b n g := by
  refine ⟨by simpa using h.1, fun j hj => ⟨?_, by rw [World.frozen?_setCell]; exact (h.2 j hj).2⟩⟩
  have hr : w.rangeAt b 0 ((List.range n).map fun j => f j) := fun i v hv => by
    have hi : i < n := by
      have := (List.getElem?_eq_some_iff.1 hv).1
      simpa using this
    rw [List.getElem?_map, List.getElem?_range hi] at hv
    simp at hv
    subst hv
    simpa using (h.2 i hi).1
  have h2 := range_put hr j0 x (ds := (List.range n).map fun j => g j) (by
    apply List.ext_getElem?
    intro i
    by_cases hi : i < n
    · by_cases e : i = j0
      · subst e
        simp [hi, hg]
      · rw [List.getElem?_set_ne (Ne.symm e), List.getElem?_map, List.getElem?_map, List.getElem?_range hi]
        simp [hg, e]
    · rw [List.getElem?_eq_none (by simp; omega), List.getElem?_eq_none (by simp; omega)])
  exact range_cell h2 j (by simp [hj])
theorem Vls.below {w w' : World} {b n : Nat} {f : Nat → Value} (h : Vls w b n f) (hb : Below w.heap.size w w') : Vls w' b n f :=
  ⟨Nat.lt_of_lt_of_le h.1 hb.size, fun j hj => ⟨by rw [hb.cell (p := ⟨b, j, none⟩) h.1]; exact (h.2 j hj).1, by rw [hb.frozen (p := ⟨b, j, none⟩) h.1]; exact (h.2 j hj).2⟩⟩
theorem Vls.alloc {w : World} {b n : Nat} {f : Nat → Value} (h : Vls w b n f) (o : Obj) : Vls (w.alloc o) b n f := h.below ((Below.refl _ w).alloc (Nat.le_refl _) o)
theorem Vls.other {w : World} {b n : Nat} {f : Nat → Value} (h : Vls w b n f) (b' j : Nat) (v : Value) (hb : b' ≠ b) : Vls (w.setCell ⟨b', j, none⟩ v) b n f :=
  ⟨by simpa using h.1, fun i hi => ⟨by rw [World.cell?_setCell_other _ _ _ _ (by intro e; injection e with e; exact hb e)]; exact (h.2 i hi).1, by rw [World.frozen?_setCell]; exact (h.2 i hi).2⟩⟩
theorem Vls.like {w : World} {b n : Nat} {f g : Nat → Value} (h : Vls w b n f) (e : ∀ j, j < n → f j = g j) : Vls w b n g :=
  ⟨h.1, fun j hj => by rw [← e j hj]; exact h.2 j hj⟩
theorem below_cells {B b : Nat} {a : World} (hb : B ≤ b) : ∀ (vs : List Value) (o : Nat) (w : World), Below B a w → Below B a (w.setCells b o vs)
  | [], _, _, h => h
  | v :: r, o, _, h => below_cells hb r (o + 1) _ (h.setCell (p := ⟨b, o, none⟩) hb v)
theorem Vls.there {w : World} {b n : Nat} {f : Nat → Value} (h : Vls w b n f) : w.there b 0 n := fun j hj => by
  have := h.2 j hj
  rw [Nat.zero_add]
  exact ⟨by rw [this.1]; rfl, this.2⟩
/-- 'n' of the values, from the 'o'th on. -/
def vals (g : Nat → Value) (o n : Nat) : List Value := (List.range n).map fun j => g (o + j)
theorem vals_len (g : Nat → Value) (o n : Nat) : (vals g o n).length = n := by simp [vals]
theorem vals_at (g : Nat → Value) (o n j : Nat) (h : j < n) : (vals g o n)[j]? = some (g (o + j)) := by simp [vals, h]
theorem vals_some {g : Nat → Value} {o n j : Nat} {v : Value} (h : (vals g o n)[j]? = some v) : j < n ∧ v = g (o + j) := by
  have hj : j < n := by
    have := (List.getElem?_eq_some_iff.1 h).1
    rwa [vals_len] at this
  rw [vals_at g o n j hj] at h
  exact ⟨hj, (Option.some.inj h).symm⟩
theorem Vls.range {w : World} {b N : Nat} {g : Nat → Value} (h : Vls w b N g) (o n : Nat) (hn : o + n ≤ N) : w.rangeAt b o (vals g o n) := fun j v hv => by
  obtain ⟨hj, rfl⟩ := vals_some hv
  exact (h.2 (o + j) (by omega)).1
theorem Vls.thereAt {w : World} {b N : Nat} {g : Nat → Value} (h : Vls w b N g) (o n : Nat) (hn : o + n ≤ N) : w.there b o n := fun j hj => by
  have := h.2 (o + j) (by omega)
  exact ⟨by rw [this.1]; rfl, this.2⟩
theorem Vls.boxed (w : World) (g : Nat → Value) (n : Nat) (t : TypeId) : Vls (w.alloc (.cells (vals g 0 n).toArray t)) w.heap.size n g := by
  refine ⟨by simp, fun j hj => ⟨?_, World.frozen?_alloc_at _ t _ j rfl⟩⟩
  refine range_cell (range_new w (vals g 0 n).toArray t) j ?_
  have := vals_at g 0 n j hj
  rw [Nat.zero_add] at this
  simpa using this
theorem size_setCells (b : Nat) : ∀ (vs : List Value) (o : Nat) (w : World), (w.setCells b o vs).heap.size = w.heap.size
  | [], _, _ => rfl
  | v :: r, o, w => by
    show ((w.setCell ⟨b, o, none⟩ v).setCells b (o + 1) r).heap.size = _
    rw [size_setCells b r (o + 1) _]; simp
theorem frozen_setCells (b : Nat) (p : Addr) : ∀ (vs : List Value) (o : Nat) (w : World), (w.setCells b o vs).frozen? p = w.frozen? p
  | [], _, _ => rfl
  | v :: r, o, w => by
    show ((w.setCell ⟨b, o, none⟩ v).setCells b (o + 1) r).frozen? p = _
    rw [frozen_setCells b p r (o + 1) _, World.frozen?_setCell]
theorem Vls.put {w : World} {b N : Nat} {g : Nat → Value} (h : Vls w b N g) (o n : Nat) (hn : o + n ≤ N) (g' : Nat → Value) (k : Nat → Value) (hk : ∀ j, j < N → k j = if o ≤ j ∧ j < o + n then g' (j - o) else g j) : Vls (w.setCells b o (vals g' 0 n)) b N k := by
  refine ⟨by rw [size_setCells]; exact h.1, fun j hj => ⟨?_, by rw [frozen_setCells]; exact (h.2 j hj).2⟩⟩
  rw [hk j hj]
  by_cases e : o ≤ j ∧ j < o + n
  · rw [if_pos e]
    have := World.cell?_setCells_in b (vals g' 0 n) o w (fun i hi => by rw [vals_len] at hi; rw [(h.2 (o + i) (by omega)).1]; rfl) (j - o) (by rw [vals_len]; omega)
    rw [show o + (j - o) = j by omega] at this
    rw [this]
    have h2 := vals_at g' 0 n (j - o) (by omega)
    rw [Nat.zero_add] at h2
    rw [List.getElem?_eq_getElem (by rw [vals_len]; omega)] at h2
    exact h2
  · rw [if_neg e]
    rw [World.cell?_setCells_out b (vals g' 0 n) o w ⟨b, j, none⟩ (fun _ _ => by show j < o ∨ o + (vals g' 0 n).length ≤ j; rw [vals_len]; omega)]
    exact (h.2 j hj).1
theorem Vls.far {w : World} {b N : Nat} {g : Nat → Value} (h : Vls w b N g) (b' : Nat) (hb : b' ≠ b) : ∀ (vs : List Value) (o : Nat), Vls (w.setCells b' o vs) b N g := fun vs o =>
  ⟨by rw [size_setCells]; exact h.1, fun j hj => ⟨by rw [World.cell?_setCells_out b' vs o w ⟨b, j, none⟩ (fun e _ => absurd e.symm hb)]; exact (h.2 j hj).1, by rw [frozen_setCells]; exact (h.2 j hj).2⟩⟩
theorem Ints.vls {w : World} {b n : Nat} {f : Nat → Int} (h : Ints w b n f) : Vls w b n (fun j => .int .i64 (f j)) := h
theorem Vls.ints {w : World} {b n : Nat} {f : Nat → Int} (h : Vls w b n (fun j => .int .i64 (f j))) : Ints w b n f := h
end Go.Proofs.Ytijgabippedhpaa
