
import Derived.Test.YthdieladjnneoaaPort0
import Derived.Laws.AppendOwn
import Derived.Deep.AppendLies
/-
  A row that the call owns (made by append), as integers in memory.
-/
namespace Go.Proofs.Ythdieladjnneoaa
set_option linter.unusedVariables false
set_option linter.unusedSimpArgs false
open Go.ChangeShapes Go.WideShapes Go.RowKit

theorem owns_at {w : World} {g : Nat} {cur : Array Value} {e : TypeId} (hb : w.heap[g]? = some (.cells cur e (0, 0))) {j : Nat} {v : Value} (h : cur[j]? = some v) : w.cell? ⟨g, j, none⟩ = some v ∧ w.frozen? ⟨g, j, none⟩ = false := by
  constructor
  · simp [World.cell?, hb, h]
  · simp [World.frozen?, hb]
theorem take_at {l : List Value} {k j : Nat} {xs : List Value} (h : l.take k = xs) (hj : j < k) : l[j]? = xs[j]? := by
  rw [← h, List.getElem?_take, if_pos hj]
/-- The row that a call owns holds these integers. -/
theorem Ints.of_owns {w : World} {base g n cap : Nat} {e : TypeId} {xs : List Value} {f : Nat → Int} (h : w.ownsRow base e 2 (.slice (some ⟨g, 0, none⟩) n cap) n xs) (hn : 0 < n) (hx : ∀ j, j < 2 * n → xs[j]? = some (.int .i64 (f j))) : Ints w g (2 * n) f ∧ base ≤ g := by
  rcases h.2 with ⟨h0, -⟩ | ⟨g', cap', cur, hv, hb, hg, h1, h2, h3, h4⟩
  · cases h0
  · injection hv with hv _ hc
    injection hv with hv
    injection hv with hv
    subst hv
    refine ⟨⟨(Array.getElem?_eq_some_iff.1 hg).1, fun j hj => ?_⟩, hb⟩
    have hj2 := take_at h4 (j := j) (by omega)
    rw [hx j hj] at hj2
    exact owns_at hg (by rw [← Array.getElem?_toList]; exact hj2)
theorem Prs.of_owns {w : World} {base n : Nat} {e : TypeId} {v : Value} {xs : List Value} {f : Nat → Int} (h : w.ownsRow base e 2 v n xs) (hx : ∀ j, j < 2 * n → xs[j]? = some (.int .i64 (f j))) : Prs w v n f := by
  rcases h.2 with ⟨rfl, h0⟩ | ⟨g, cap, cur, rfl, hb, hg, h1, h2, h3, h4⟩
  · exact Or.inl ⟨h0, _, _, rfl⟩
  · refine Or.inr ⟨g, 0, cap, rfl, (Array.getElem?_eq_some_iff.1 hg).1, fun j hj => ?_⟩
    have hj2 := take_at h4 (j := j) (by omega)
    rw [hx j hj] at hj2
    rw [Nat.zero_add]
    exact (owns_at hg (by rw [← Array.getElem?_toList]; exact hj2)).1
/-- The cells of a slice of structs of two integers, as a list. -/
def listOf (n : Nat) (f : Nat → Int) : List Value := (List.range (2 * n)).map fun j => .int .i64 (f j)
theorem listOf_len (n : Nat) (f : Nat → Int) : (listOf n f).length = n * 2 := by simp [listOf, Nat.mul_comm]
theorem listOf_at (n : Nat) (f : Nat → Int) (j : Nat) (hj : j < 2 * n) : (listOf n f)[j]? = some (.int .i64 (f j)) := by simp [listOf, hj]
theorem listOf_one (n : Nat) (f : Nat → Int) : ∀ u ∈ listOf n f, u.oneCell' = true := by
  intro u hu
  simp only [listOf, List.mem_map] at hu
  obtain ⟨j, -, rfl⟩ := hu
  rfl
theorem listOf_cells {w : World} {b o n : Nat} {f : Nat → Int} (h : ∀ j, j < 2 * n → w.cell? ⟨b, o + j, none⟩ = some (.int .i64 (f j))) : ∀ j u, (listOf n f)[j]? = some u → w.cell? ((⟨b, o, none⟩ : Addr).add j) = some u := by
  intro j u hu
  have hj : j < 2 * n := by
    have := (List.getElem?_eq_some_iff.1 hu).1
    rw [listOf_len] at this
    omega
  rw [listOf_at n f j hj] at hu
  injection hu with hu
  subst hu
  have e := h j hj
  by_cases j0 : j = 0
  · subst j0
    simpa [Addr.add] using e
  · simpa [Addr.add, j0] using e
end Go.Proofs.Ythdieladjnneoaa
