
import Derived.Test.YtkdmmomfolhfbaaMem
import Derived.Test.YtkdmmomfolhfbaaVoteX
import Derived.Test.YtkdmmomfolhfbaaGateX
/-
  Plain laws of this verifier's own: a row that the call owns, and blocks of integers, carried on; two results of which one is a struct.
-/
namespace Go.Proofs.Ytkdmmomfolhfbaa
set_option linter.unusedVariables false
set_option linter.unusedSimpArgs false
open Go.ChangeShapes Go.WideShapes Go.RowKit

theorem owns_below {w w' : World} {base : Nat} {e : TypeId} {size : Nat} {v : Value} {n : Nat} {xs : List Value} (h : w.ownsRow base e size v n xs) (hb : Below w.heap.size w w') : w'.ownsRow base e size v n xs := by
  refine ⟨h.1, ?_⟩
  rcases h.2 with h2 | ⟨g, cap, cur, hv, h0, hg, h1, h2, h3, h4⟩
  · exact Or.inl h2
  · exact Or.inr ⟨g, cap, cur, hv, h0, by rw [hb.block g (Array.getElem?_eq_some_iff.1 hg).1]; exact hg, h1, h2, h3, h4⟩
theorem owns_set {w : World} {base : Nat} {e : TypeId} {size : Nat} {v : Value} {n : Nat} {xs : List Value} (h : w.ownsRow base e size v n xs) (b j : Nat) (x : Value) (hb : b < base) : (w.setCell ⟨b, j, none⟩ x).ownsRow base e size v n xs := by
  refine ⟨h.1, ?_⟩
  rcases h.2 with h2 | ⟨g, cap, cur, hv, h0, hg, h1, h2, h3, h4⟩
  · exact Or.inl h2
  · exact Or.inr ⟨g, cap, cur, hv, h0, by rw [heap_setCell_other _ _ _ _ (by show g ≠ b; omega)]; exact hg, h1, h2, h3, h4⟩
theorem ints_grown {w w' : World} {b n : Nat} {f : Nat → Int} {row : Option Nat} (h : Ints w b n f) (hg : w.grownBy w' row) (hne : some b ≠ row) : Ints w' b n f :=
  ⟨Nat.lt_of_lt_of_le h.1 hg.size, fun j hj => ⟨by rw [hg.cell_far ⟨b, j, none⟩ h.1 hne]; exact (h.2 j hj).1, by rw [hg.frozen_far ⟨b, j, none⟩ h.1 hne]; exact (h.2 j hj).2⟩⟩
theorem ret_cell_tmp2 {P : Program} {fn : Func} {p u u2 : Tmp} {ty : TypeId} (h : fn.results = #[.cell p ty, .tmp u, .tmp u2]) {tmps : Array Value} {w : World} (b : Nat) (cs : List Value) (d : TypeDesc)
    (hp : tmps.getD p undef = .pointer (some ⟨b, 0, none⟩)) (hc : w.rangeAt b 0 cs) (hu : P.underlying ty = some d) (hd : d.isRow = true) (hi : (P.info? ty).map (·.size) = some cs.length) :
    (results fn tmps).run P w = .ok (.tuple #[.agg cs.toArray, tmps.getD u undef, tmps.getD u2 undef]) w := by
  have hp' : tmps[p]?.getD undef = .pointer (some ⟨b, 0, none⟩) := by simpa using hp
  simp only [results, h]
  simp [Sem.run_bind, hp', asAddr, run_loadVar_mid w b 0 ty cs d hc hu hd hi]
theorem ints_of {w w' : World} {b n : Nat} {f : Nat → Int} (hb : Below w.heap.size w w') (h : Ints w b n f) : Ints w' b n f := h.below hb
theorem Ints.drew1 {w : World} {b n : Nat} {f : Nat → Int} (h : Ints w b n f) : Ints w.drew b n f := h
theorem Ints.two0 (w : World) (t : TypeId) : Ints (w.alloc (.cells #[.int .i64 0, .int .i64 0] t)) w.heap.size 2 (fun _ => 0) := Ints.two w 0 0 t _ rfl rfl
theorem Ints.two1 (w : World) (x y : Int) (t : TypeId) : Ints (w.alloc (.cells #[.int .i64 x, .int .i64 y] t)) w.heap.size 2 (fun j => if j = 0 then x else y) := Ints.two w x y t _ rfl rfl
theorem Ints.two2 (w : World) (x y : Int) (t t' : TypeId) (cs : Array Value) : Ints ((w.alloc (.cells cs t')).alloc (.cells #[.int .i64 x, .int .i64 y] t)) (w.heap.size + 1) 2 (fun j => if j = 0 then x else y) := by
  have := Ints.two1 (w.alloc (.cells cs t')) x y t
  rw [World.size_alloc] at this
  exact this
theorem Ints.set2 {w : World} {b : Nat} {f : Nat → Int} (h : Ints w b 2 f) (x y : Int) : Ints ((w.setCell ⟨b, 0, none⟩ (.int .i64 x)).setCell ⟨b, 1, none⟩ (.int .i64 y)) b 2 (fun j => if j = 0 then x else y) := by
  refine ((h.set 0 x (by decide) _ (fun j => rfl)).set 1 y (by decide) _ (fun j => rfl)).like (fun j hj => ?_)
  have h2 : j = 0 ∨ j = 1 := by omega
  rcases h2 with rfl | rfl <;> rfl
theorem Ints.box2 (w : World) (f : Nat → Int) (t t' : TypeId) (cs : Array Value) : Ints ((w.alloc (.cells cs t')).alloc (.cells #[.int .i64 (f 0), .int .i64 (f 1), .int .i64 (f 2), .int .i64 (f 3), .int .i64 (f 4), .int .i64 (f 5), .int .i64 (f 6), .int .i64 (f 7), .int .i64 (f 8), .int .i64 (f 9), .int .i64 (f 10), .int .i64 (f 11)] t)) (w.heap.size + 1) 12 f := by
  have := Ints.box (w.alloc (.cells cs t')) f t
  rw [World.size_alloc] at this
  exact this
theorem Ints.box_at (w : World) (f : Nat → Int) (t : TypeId) {b : Nat} (h : b = w.heap.size) : Ints (w.alloc (.cells #[.int .i64 (f 0), .int .i64 (f 1), .int .i64 (f 2), .int .i64 (f 3), .int .i64 (f 4), .int .i64 (f 5), .int .i64 (f 6), .int .i64 (f 7), .int .i64 (f 8), .int .i64 (f 9), .int .i64 (f 10), .int .i64 (f 11)] t)) b 12 f := by
  subst h; exact Ints.box w f t
theorem Ints.two_at (w : World) (x y : Int) (t : TypeId) {b : Nat} (h : b = w.heap.size) : Ints (w.alloc (.cells #[.int .i64 x, .int .i64 y] t)) b 2 (fun j => if j = 0 then x else y) := by
  subst h; exact Ints.two1 w x y t
theorem cell_drew1 {w : World} {b o : Nat} {v : Value} (h : w.cell? ⟨b, o, none⟩ = some v) : w.drew.cell? ⟨b, o, none⟩ = some v := h
theorem cell_alloc1 {w : World} {b o : Nat} {v : Value} {x : Obj} (h : w.cell? ⟨b, o, none⟩ = some v) : (w.alloc x).cell? ⟨b, o, none⟩ = some v := by
  rw [World.cell?_alloc_lt _ _ _ (World.block_lt_of_cell? w _ h)]; exact h
theorem cell_other1 {w : World} {b o : Nat} {v : Value} (h : w.cell? ⟨b, o, none⟩ = some v) (b' j : Nat) (x : Value) (hb : b' ≠ b) : (w.setCell ⟨b', j, none⟩ x).cell? ⟨b, o, none⟩ = some v := by
  rw [World.cell?_setCell_other _ _ _ _ (by intro e; injection e with e; exact hb e)]; exact h
theorem cell_below1 {w w' : World} {b o : Nat} {v : Value} (hb : Below w.heap.size w w') (h : w.cell? ⟨b, o, none⟩ = some v) : w'.cell? ⟨b, o, none⟩ = some v := by
  rw [hb.cell (World.block_lt_of_cell? w _ h)]; exact h
/-- A hub's cells, and one cell more, as a drawing region wants them. -/
theorem hub_cells {w : World} {c : Nat} {f : Nat → Int} {b o : Nat} {U : Value} (h : Ints w c 12 f) (t : w.cell? ⟨b, o, none⟩ = some U) : w.cell? ⟨c, 0, none⟩ = some (.int .i64 (f 0)) ∧ w.cell? ⟨c, 1, none⟩ = some (.int .i64 (f 1)) ∧ w.cell? ⟨c, 2, none⟩ = some (.int .i64 (f 2)) ∧ w.cell? ⟨c, 3, none⟩ = some (.int .i64 (f 3)) ∧ w.cell? ⟨c, 4, none⟩ = some (.int .i64 (f 4)) ∧ w.cell? ⟨c, 5, none⟩ = some (.int .i64 (f 5)) ∧ w.cell? ⟨c, 6, none⟩ = some (.int .i64 (f 6)) ∧ w.cell? ⟨c, 7, none⟩ = some (.int .i64 (f 7)) ∧ w.cell? ⟨c, 8, none⟩ = some (.int .i64 (f 8)) ∧ w.cell? ⟨c, 9, none⟩ = some (.int .i64 (f 9)) ∧ w.cell? ⟨c, 10, none⟩ = some (.int .i64 (f 10)) ∧ w.cell? ⟨c, 11, none⟩ = some (.int .i64 (f 11)) ∧ w.cell? ⟨b, o, none⟩ = some U :=
  ⟨(h.2 0 (by decide)).1, (h.2 1 (by decide)).1, (h.2 2 (by decide)).1, (h.2 3 (by decide)).1, (h.2 4 (by decide)).1, (h.2 5 (by decide)).1, (h.2 6 (by decide)).1, (h.2 7 (by decide)).1, (h.2 8 (by decide)).1, (h.2 9 (by decide)).1, (h.2 10 (by decide)).1, (h.2 11 (by decide)).1, t⟩
end Go.Proofs.Ytkdmmomfolhfbaa
