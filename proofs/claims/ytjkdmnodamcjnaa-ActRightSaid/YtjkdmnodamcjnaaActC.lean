
import Derived.Test.YtjkdmnodamcjnaaRows
import Derived.Test.YtjkdmnodamcjnaaActB
import Derived.Maps.Own
import Derived.Maps.OwnOps
import Derived.Maps.OwnSet
import Derived.Maps.Keyed
import Derived.Deep.RegionWith
namespace Go.Proofs.Ytjkdmnodamcjnaa
set_option linter.unusedVariables false
set_option linter.unusedSimpArgs false
open Go.ChangeShapes Go.WideShapes Go.RowKit
open Go.Maps Go.WideMaps

/-- How a function among a map's elements reads: by its number. -/
def fnElem : Value → Option (DataW Unit × List MemPlace)
  | .func (.func k) a b => if a = #[] ∧ b = #[] then some (.lit (.int .i64 k), []) else none
  | .nilFunc => some (.lit (.int .i64 (-1)), [])
  | _ => none
theorem fnElem_inv {v : Value} {k : Nat} {ps : List MemPlace} (h : fnElem v = some (.lit (.int .i64 (k : Nat)), ps)) : v = .func (.func k) #[] #[] := by
  unfold fnElem at h
  split at h
  · split at h
    · rename_i q
      obtain ⟨rfl, rfl⟩ := q
      simp at h
      obtain ⟨h, _⟩ := h
      have h := Int.ofNat.inj h
      subst h
      rfl
    · cases h
  · simp at h
  · cases h
theorem intKey : Keyed Try.prog 3 := int_keyed Try.underlying3
theorem key_int (a : Int) (h : (Lit.int .i64 a).wf = true) : keyOf Try.prog 3 (.int .i64 a) = some (.int .i64 a) := keyOf_int_mk Try.underlying3 h
theorem zeroFn (w : World) : (zeroValue 47).run Try.prog w = .ok .nilFunc w := by kernel_rfl
/-- The table of modes, as it reads. -/
def modesD : DataW Unit := (((DataW.map []).put (.int .i64 1) (.lit (.int .i64 26))).put (.int .i64 2) (.lit (.int .i64 27))).put (.int .i64 3) (.lit (.int .i64 28))
theorem modes_any (w : World) :
    Calls Try.prog 15 #[] w fun e w' => e = .returned (.map (some w.heap.size)) ∧ w'.ownsMap Try.prog 3 fnElem w.heap.size 3 modesD ∧ Below w.heap.size w w' := by
  have hmm := @run_makeMap Try.prog
  have o0 := World.ownsMap_made (H := Unit) w Try.prog 3 fnElem
  have b0 := kalloc (Below.refl w.heap.size w) (.map #[] 0)
  obtain ⟨w1, r1, o1, g1⟩ := o0.update intKey Try.underlying49 (by unfold maxLen; omega) (key_int 1 (by decide)) (val := .func (.func 26) #[] #[]) rfl
  have b1 := b0.grown g1 b0.size (by intro k hk; injection hk with hk; omega)
  obtain ⟨w2, r2, o2, g2⟩ := o1.update intKey Try.underlying49 (by unfold maxLen; omega) (key_int 2 (by decide)) (val := .func (.func 27) #[] #[]) rfl
  have b2 := b1.grown g2 b1.size (by intro k hk; injection hk with hk; omega)
  obtain ⟨w3, r3, o3, g3⟩ := o2.update intKey Try.underlying49 (by unfold maxLen; omega) (key_int 3 (by decide)) (val := .func (.func 28) #[] #[]) rfl
  have b3 := b2.grown g3 b2.size (by intro k hk; injection hk with hk; omega)
  have HO := Lib.hid o3
  have HB := Lib.hid b3
  clear o0 o1 o2 o3 b0 b1 b2 b3 g1 g2 g3
  go_enter Try.func15, Try.ntmps15
  go_wp2
  go_ret
  exact ⟨rfl, HO.out, HB.out⟩
/-- What a look into it yields. -/
theorem modes_look {w : World} {b : Nat} (h : w.ownsMap Try.prog 3 fnElem b 3 modesD) (m : Int) (hm : (Lit.int .i64 m).wf = true) :
    ∃ v ps, (Instr.lookup 49 (.map (some b)) (.int .i64 m) true).run Try.prog w = .ok (.tuple #[v, .bool (Maps.has modesD (.int .i64 m))]) w ∧ fnElem v = some (modesD.atKey (.int .i64 m) (.lit (.int .i64 (-1))), ps) :=
  h.look_ok intKey Try.underlying49 (zeroFn w) rfl (key_int m hm)
theorem modes_1 {w : World} {b : Nat} (h : w.ownsMap Try.prog 3 fnElem b 3 modesD) :
    (Instr.lookup 49 (.map (some b)) (.int .i64 1) true).run Try.prog w = .ok (.tuple #[.func (.func 26) #[] #[], .bool true]) w := by
  obtain ⟨v, ps, hr, hv⟩ := modes_look h 1 (by decide)
  obtain rfl := fnElem_inv (k := 26) hv
  exact hr
theorem modes_2 {w : World} {b : Nat} (h : w.ownsMap Try.prog 3 fnElem b 3 modesD) :
    (Instr.lookup 49 (.map (some b)) (.int .i64 2) true).run Try.prog w = .ok (.tuple #[.func (.func 27) #[] #[], .bool true]) w := by
  obtain ⟨v, ps, hr, hv⟩ := modes_look h 2 (by decide)
  obtain rfl := fnElem_inv (k := 27) hv
  exact hr
theorem modes_3 {w : World} {b : Nat} (h : w.ownsMap Try.prog 3 fnElem b 3 modesD) :
    (Instr.lookup 49 (.map (some b)) (.int .i64 3) true).run Try.prog w = .ok (.tuple #[.func (.func 28) #[] #[], .bool true]) w := by
  obtain ⟨v, ps, hr, hv⟩ := modes_look h 3 (by decide)
  obtain rfl := fnElem_inv (k := 28) hv
  exact hr
theorem modes_0 {w : World} {b : Nat} (h : w.ownsMap Try.prog 3 fnElem b 3 modesD) :
    ∃ v, (Instr.lookup 49 (.map (some b)) (.int .i64 0) true).run Try.prog w = .ok (.tuple #[v, .bool false]) w := by
  obtain ⟨v, ps, hr, hv⟩ := modes_look h 0 (by decide)
  exact ⟨v, hr⟩
end Go.Proofs.Ytjkdmnodamcjnaa
