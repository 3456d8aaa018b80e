/-
  Plain laws of this verifier's own, over any program: an argument of a type that is made of structs and arrays by value, opened cell by cell, whatever its shape.
-/
import Derived.WalkKit
import Derived.ProofKit
import Derived.OpenShut
import Derived.Lib.SmallJoins
namespace Go.Proofs.Ytijgabippedhpaa
set_option linter.unusedVariables false
set_option linter.unusedSimpArgs false
open Go.ChangeShapes Go.WideShapes Go.RowKit

/-- The type of a value's cell i, where structs and arrays are laid flat. -/
def leafType (P : Program) : Nat → TypeId → Nat → Option TypeId
  | 0, _, _ => none
  | n + 1, t, i =>
    match P.underlying t with
    | some (.struct fs) => fs.toList.findSome? fun f => if f.offset ≤ i ∧ i < f.offset + P.cellsOf f.type then leafType P n f.type (i - f.offset) else none
    | some (.array m e) => if i / P.cellsOf e < m ∧ 0 < P.cellsOf e then leafType P n e (i % P.cellsOf e) else none
    | some (.int _) | some .bool | some .string | some (.slice _) => if i = 0 then some t else none
    | _ => none

section
variable {H : Type} {enc : TypeId × Value → H} {P : Program} {w : World} {base : Nat} {spare : Nat → Bool} {held : Bool}

theorem leaf_one {t : TypeId} {fuel : Nat} {cs : List Value} {x : DataW H × List MemPlace} (h : DataW.trod enc P w base spare held fuel t cs = some x)
    (hk : (∃ k, P.underlying t = some (.int k)) ∨ P.underlying t = some .bool ∨ P.underlying t = some .string ∨ ∃ e, P.underlying t = some (.slice e)) : ∃ v, cs = [v] := by
  cases fuel with
  | zero => simp [DataW.trod] at h
  | succ n =>
    unfold DataW.trod at h
    rcases hk with ⟨k, hk⟩ | hk | hk | ⟨e, hk⟩ <;> rw [hk] at h <;> split at h <;> first | exact ⟨_, rfl⟩ | simp_all

theorem leaf_at : ∀ (n : Nat) (t : TypeId) (i : Nat) (fuel : Nat) (cs : List Value) (x : DataW H × List MemPlace) (t' : TypeId),
    DataW.trod enc P w base spare held fuel t cs = some x → leafType P n t i = some t' → ∃ v m y, cs[i]? = some v ∧ DataW.trod enc P w base spare held m t' [v] = some y := by
  intro n
  induction n with
  | zero => intro t i fuel cs x t' h hl; simp [leafType] at hl
  | succ n ih =>
    intro t i fuel cs x t' h hl
    have leaf : ((∃ k, P.underlying t = some (.int k)) ∨ P.underlying t = some .bool ∨ P.underlying t = some .string ∨ ∃ e, P.underlying t = some (.slice e)) → i = 0 → t = t' → ∃ v m y, cs[i]? = some v ∧ DataW.trod enc P w base spare held m t' [v] = some y := by
      intro hk hi ht
      obtain ⟨v, rfl⟩ := leaf_one h hk
      subst hi ht
      exact ⟨v, fuel, x, rfl, h⟩
    unfold leafType at hl
    cases hu : P.underlying t with
    | none => rw [hu] at hl; simp at hl
    | some d =>
      rw [hu] at hl
      cases d with
      | struct fs =>
        simp only at hl
        obtain ⟨f, hf, hfi⟩ := List.exists_of_findSome?_eq_some hl
        split at hfi
        · rename_i hb
          obtain ⟨xs, m, _, _, hlen, hxl, hat⟩ := DataW.trod_struct hu h
          obtain ⟨j, hj, hjf⟩ := List.getElem_of_mem hf
          have hj2 : fs[j]? = some f := by
            rw [← Array.getElem?_toList, List.getElem?_eq_getElem hj, hjf]
          have h1 := hat j f hj2
          have hjx : j < xs.length := by rw [hxl]; simpa using hj
          rw [List.getElem?_eq_getElem hjx] at h1
          obtain ⟨v, m', y, hv, hy⟩ := ih _ _ _ _ _ _ h1 hfi
          refine ⟨v, m', y, ?_, hy⟩
          rw [List.getElem?_take] at hv
          split at hv
          · rw [List.getElem?_drop] at hv
            rw [← hv]; congr 1; omega
          · simp at hv
        · simp at hfi
      | array k e =>
        simp only at hl
        split at hl
        · rename_i hb
          obtain ⟨xs, m, _, _, hlen, hxl, hat⟩ := DataW.trod_array hu h
          have h1 := hat _ hb.1
          rw [List.getElem?_eq_getElem (by omega)] at h1
          obtain ⟨v, m', y, hv, hy⟩ := ih _ _ _ _ _ _ h1 hl
          refine ⟨v, m', y, ?_, hy⟩
          rw [List.getElem?_take] at hv
          split at hv
          · rw [List.getElem?_drop] at hv
            rw [← hv]; congr 1
            have := Nat.div_add_mod i (P.cellsOf e)
            rw [Nat.mul_comm] at this
            exact this.symm
          · simp at hv
        · simp at hl
      | int k => simp only at hl; split at hl <;> simp_all
      | bool => simp only at hl; split at hl <;> simp_all
      | string => simp only at hl; split at hl <;> simp_all
      | slice e => simp only at hl; split at hl <;> simp_all
      | _ => simp at hl

/-- Cell i of a struct or an array by value is a number, with its kind's bounds. -/
theorem leaf_int (n : Nat) {t t' : TypeId} {i : Nat} {k : IntKind} {cs : Array Value} {v : Value} {d : DataW H} {p : List MemPlace} (h : DataW.Trod enc P w base spare held t (.agg cs) d p)
    (hl : leafType P n t i = some t') (hk : P.underlying t' = some (.int k)) (hv : cs[i]? = some v) : ∃ a : Int, v = .int k a ∧ (Lit.int k a).wf = true := by
  obtain ⟨fuel, hf⟩ := h
  obtain ⟨u, m, y, hu, hy⟩ := leaf_at n t i fuel _ _ _ hf hl
  simp only [Value.cells, Array.getElem?_toList, hv, Option.some.injEq] at hu
  subst hu
  obtain ⟨a, h1, _, h3⟩ := DataW.trod_int hk hy
  simp at h1
  exact ⟨a, h1, h3⟩
theorem leaf_bool (n : Nat) {t t' : TypeId} {i : Nat} {cs : Array Value} {v : Value} {d : DataW H} {p : List MemPlace} (h : DataW.Trod enc P w base spare held t (.agg cs) d p)
    (hl : leafType P n t i = some t') (hk : P.underlying t' = some .bool) (hv : cs[i]? = some v) : ∃ a : Bool, v = .bool a := by
  obtain ⟨fuel, hf⟩ := h
  obtain ⟨u, m, y, hu, hy⟩ := leaf_at n t i fuel _ _ _ hf hl
  simp only [Value.cells, Array.getElem?_toList, hv, Option.some.injEq] at hu
  subst hu
  obtain ⟨a, h1, _⟩ := DataW.trod_bool hk hy
  simp at h1
  exact ⟨a, h1⟩
theorem leaf_string (n : Nat) {t t' : TypeId} {i : Nat} {cs : Array Value} {v : Value} {d : DataW H} {p : List MemPlace} (h : DataW.Trod enc P w base spare held t (.agg cs) d p)
    (hl : leafType P n t i = some t') (hk : P.underlying t' = some .string) (hv : cs[i]? = some v) : ∃ a : ByteArray, v = .string a ∧ a.size ≤ maxLen := by
  obtain ⟨fuel, hf⟩ := h
  obtain ⟨u, m, y, hu, hy⟩ := leaf_at n t i fuel _ _ _ hf hl
  simp only [Value.cells, Array.getElem?_toList, hv, Option.some.injEq] at hu
  subst hu
  obtain ⟨a, h1, _, h3⟩ := DataW.trod_string hk hy
  simp at h1
  exact ⟨a, h1, h3⟩
/-- Cell i is a slice: its own reading. -/
theorem leaf_slice (n : Nat) {t t' : TypeId} {i : Nat} {cs : Array Value} {v : Value} {d : DataW H} {p : List MemPlace} (h : DataW.Trod enc P w base spare held t (.agg cs) d p)
    (hl : leafType P n t i = some t') (hv : cs[i]? = some v) : ∃ m y, DataW.trod enc P w base spare held m t' [v] = some y := by
  obtain ⟨fuel, hf⟩ := h
  obtain ⟨u, m, y, hu, hy⟩ := leaf_at n t i fuel _ _ _ hf hl
  simp only [Value.cells, Array.getElem?_toList, hv, Option.some.injEq] at hu
  subst hu
  exact ⟨m, y, hy⟩

theorem okWide_array {r : Reach} {b0 n : Nat} {e t : TypeId} {v : Value} (ht : P.underlying t = some (.array n e)) (h : Value.okWide P w r b0 t v) : ∃ cs, v = .agg cs ∧ cs.size = P.cellsOf t := by
  simp only [Value.okWide, ht] at h
  obtain ⟨cs, h1, h2, _⟩ := h
  exact ⟨cs, h1, h2⟩
end
end Go.Proofs.Ytijgabippedhpaa
