
import Derived.Test.YtijgabippedhpaaVls
import Derived.OrdersHeld
import Derived.Deep.RegionHeld
import Derived.Deep.MidRow
/-
  Plain laws of this verifier's own, over any program: wide loads and stores in a region that draws its order: a load whose range an S gives is taken first; a store that alone may come up follows.
-/
namespace Go.Proofs.Ytijgabippedhpaa
set_option linter.unusedVariables false
set_option linter.unusedSimpArgs false
open Go.ChangeShapes Go.WideShapes Go.RowKit

section
variable {P : Program} {ops : Array Oper} {md : Region.Mode} {Q : Exit → Act → World → Prop} {S : World → Prop}
theorem anyH_load {i : Nat} {oi : Oper} {fuel : Nat} {listed : Array Bool} {a : Act} {w : World} (hi : ops[i]? = some oi)
    (hs : Region.noSelect ops = true) (hf : Region.free md ops listed i = true) (hr : (Region.ready md ops listed).contains i = true)
    (ty : TypeId) (x : Operand) (b o : Nat) (cs : List Value) (d : TypeDesc)
    (hQ : ∀ c a w, Q (.panic c) (a.put oi.dst (.agg cs.toArray)) w → Q (.panic c) a w) (hw : Region.wanted oi (yielded ops a.tmps) = true) (ho : oi.op = .load ty x)
    (hx : a.eval x = .pointer (some ⟨b, o, none⟩)) (hSr : ∀ w, S w → w.rangeAt b o cs)
    (hu : P.underlying ty = some d) (hd : d.isRow = true) (hn : (P.info? ty).map (·.size) = some cs.length) (hS : S w)
    (h : wpAnyH P md ops Q S fuel (listed.setIfInBounds i true) (a.put oi.dst (.agg cs.toArray)) w) : wpAnyH P md ops Q S (fuel + 1) listed a w :=
  wpAnyH_take hi hs hf hr hQ (yieldsIf_load_mid hw ty x ho b o hx cs d hSr hu hd hn) hS h
theorem anyH_store {k : Nat} {oi : Oper} {fuel : Nat} {listed : Array Bool} {a : Act} {w : World} (hi : ops[k]? = some oi) (hr : Region.ready md ops listed = [k])
    (ty : TypeId) (x y : Operand) (b o : Nat) (cells : Array Value) (hw : Region.wanted oi (yielded ops a.tmps) = true) (ho : oi.op = .store ty x y)
    (hx : a.eval x = .pointer (some ⟨b, o, none⟩)) (hy : a.eval y = .agg cells) (ht : w.there b o cells.size) (hn : (P.info? ty).map (·.size) = some cells.size) (h1 : cells.all (·.oneCell') = true)
    (hS : S (w.setCells b o cells.toList)) (h : wpAnyH P md ops Q S fuel (listed.setIfInBounds k true) (a.put oi.dst undef) (w.setCells b o cells.toList)) : wpAnyH P md ops Q S (fuel + 1) listed a w := by
  refine wpAnyH_all hr (by simp) (fun i hi2 => ?_)
  have e : i = k := by simpa using hi2
  subst e
  unfold wpOp
  simp only [hi, hw, if_true]
  exact .inl (wp_store_mid ty x y ho b o cells hx hy ht hn h1 ⟨hS, h⟩)
end
theorem vals_one (f : Nat → Int) (o n : Nat) : (vals (fun j => .int .i64 (f j)) o n).toArray.all (·.oneCell') = true :=
  all_oneCell_toArray (fun v hv => by
    simp only [vals, List.mem_map] at hv
    obtain ⟨j, -, rfl⟩ := hv
    rfl)
end Go.Proofs.Ytijgabippedhpaa
