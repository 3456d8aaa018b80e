
import Derived.Test.YtijgabippedhpaaRows
import Derived.Test.YtijgabippedhpaaConf0
import Derived.Test.YtijgabippedhpaaKit
import Derived.WalkKit
import Derived.WalkLawsBesides
import Derived.WalkSpells
import Derived.Outline
import Derived.Lib.Hide
import Derived.Maps.Own
import Derived.StringKeys
import Derived.Maps.OwnOps
namespace Go.Proofs.Ytijgabippedhpaa
set_option linter.unusedVariables false
set_option linter.unusedSimpArgs false
open Go.ChangeShapes Go.WideShapes Go.RowKit
open Go.Maps Go.WideMaps

theorem strKey : Keyed Try.prog 9 := string_keyed Try.underlying9
theorem zeroInt (w : World) : (zeroValue 3).run Try.prog w = .ok (.int .i64 0) w := by kernel_rfl

theorem cright_any (n : Int) (w : World) :
    Calls Try.prog 30 #[.int .i64 n] w fun e w' => e = .returned (.bool (Conf.right n)) ∧ w = w' := by
  go_enter Try.func30, Try.ntmps30
  go_wp2
  all_goals
    go_ret
    exact ⟨ret_bool (by simp [Conf.right, *] <;> omega), rfl⟩
theorem refCright_any (n : Int) (w : World) :
    Calls Try.prog 32 #[.int .i64 n] w fun e w' => e = .returned (.bool (Conf.right n)) ∧ w = w' := by
  go_enter Try.func32, Try.ntmps32
  go_wp2
  all_goals
    go_ret
    exact ⟨ret_bool (by simp [Conf.right, *] <;> omega), rfl⟩
/-- The table of factors, as it reads. -/
def table : DataW Unit := (((((((DataW.map []).put (.string [66, 108, 111, 99, 107]) (.lit (.int .i64 2))).put (.string [87, 97, 116, 99, 104]) (.lit (.int .i64 8))).put (.string [76, 97, 116, 101, 114]) (.lit (.int .i64 3))).put (.string [83, 116, 97, 114, 116]) (.lit (.int .i64 40))).put (.string [83, 116, 97, 98, 108, 101]) (.lit (.int .i64 96))).put (.string [76, 105, 115, 116, 101, 110]) (.lit (.int .i64 4))).put (.string [67, 111, 108, 100]) (.lit (.int .i64 2))
theorem key_lit (a : Array UInt8) (h : a.size ≤ 100) : keyOf Try.prog 9 (.string ⟨a⟩) = some (.string a.toList) :=
  keyOf_string_mk Try.underlying9 (by unfold maxLen; show a.size ≤ _; omega)
theorem val_ok (v : Int) (h : (Lit.int .i64 v).wf = true) : plainElem (H := Unit) Try.prog 3 (.int .i64 v) = some (.lit (.int .i64 v), []) := plainElem_int Try.underlying3 h
theorem factors_any (w : World) :
    Calls Try.prog 46 #[] w fun e w' => e = .returned (.map (some w.heap.size)) ∧ w'.ownsMap Try.prog 9 (plainElem Try.prog 3) w.heap.size 7 table ∧ Below w.heap.size w w' := by
  have hmm := @run_makeMap Try.prog
  have o0 := World.ownsMap_made (H := Unit) w Try.prog 9 (plainElem Try.prog 3)
  have b0 := kalloc (Below.refl w.heap.size w) (.map #[] 0)
  obtain ⟨w1, r1, o1, g1⟩ := o0.update strKey Try.underlying62 (by unfold maxLen; omega) (key_lit #[66, 108, 111, 99, 107] (by decide)) (val_ok 2 (by decide))
  have b1 := b0.grown g1 b0.size (by intro k hk; injection hk with hk; omega)
  obtain ⟨w2, r2, o2, g2⟩ := o1.update strKey Try.underlying62 (by unfold maxLen; omega) (key_lit #[87, 97, 116, 99, 104] (by decide)) (val_ok 8 (by decide))
  have b2 := b1.grown g2 b1.size (by intro k hk; injection hk with hk; omega)
  obtain ⟨w3, r3, o3, g3⟩ := o2.update strKey Try.underlying62 (by unfold maxLen; omega) (key_lit #[76, 97, 116, 101, 114] (by decide)) (val_ok 3 (by decide))
  have b3 := b2.grown g3 b2.size (by intro k hk; injection hk with hk; omega)
  obtain ⟨w4, r4, o4, g4⟩ := o3.update strKey Try.underlying62 (by unfold maxLen; omega) (key_lit #[83, 116, 97, 114, 116] (by decide)) (val_ok 40 (by decide))
  have b4 := b3.grown g4 b3.size (by intro k hk; injection hk with hk; omega)
  obtain ⟨w5, r5, o5, g5⟩ := o4.update strKey Try.underlying62 (by unfold maxLen; omega) (key_lit #[83, 116, 97, 98, 108, 101] (by decide)) (val_ok 96 (by decide))
  have b5 := b4.grown g5 b4.size (by intro k hk; injection hk with hk; omega)
  obtain ⟨w6, r6, o6, g6⟩ := o5.update strKey Try.underlying62 (by unfold maxLen; omega) (key_lit #[76, 105, 115, 116, 101, 110] (by decide)) (val_ok 4 (by decide))
  have b6 := b5.grown g6 b5.size (by intro k hk; injection hk with hk; omega)
  obtain ⟨w7, r7, o7, g7⟩ := o6.update strKey Try.underlying62 (by unfold maxLen; omega) (key_lit #[67, 111, 108, 100] (by decide)) (val_ok 2 (by decide))
  have b7 := b6.grown g7 b6.size (by intro k hk; injection hk with hk; omega)
  have HO := Lib.hid o7
  have HB := Lib.hid b7
  clear o0 o1 o2 o3 o4 o5 o6 o7 b0 b1 b2 b3 b4 b5 b6 b7 g1 g2 g3 g4 g5 g6 g7
  go_enter Try.func46, Try.ntmps46
  go_wp2
  go_ret
  exact ⟨rfl, HO.out, HB.out⟩

theorem rounds_no (s : ByteArray) (n : Int) (h : Conf.right n = false) (w : World) :
    Calls Try.prog 37 #[.string s, .int .i64 n] w fun e w' => e = .returned (.int .i64 0) ∧ Below w.heap.size w w' := by
  have H := Lib.hid h
  clear h
  go_enter Try.func37, Try.ntmps37
  go_wp2_with fail
  refine (cright_any _ _).mono ?_; rintro e w' ⟨rfl, rfl⟩
  rw [H.out]
  go_wp2
  go_ret
  exact ⟨rfl, bel⟩
theorem rounds_yes (a : Array UInt8) (f n : Int) (ha : a.size ≤ 100) (hf : table.atKey (.string a.toList) (.lit (.int .i64 0)) = .lit (.int .i64 f)) (f0 : 0 ≤ f) (f1 : f ≤ 96) (h : Conf.right n = true) (w : World) :
    Calls Try.prog 37 #[.string ⟨a⟩, .int .i64 n] w fun e w' => e = .returned (.int .i64 (f * n)) ∧ Below w.heap.size w w' := by
  obtain ⟨hn3, hn8⟩ := Conf.right_spec.1 h
  have H := Lib.hid h
  have HF := Lib.hid hf
  have m0 : 0 ≤ f * n := Int.mul_nonneg f0 (by omega)
  have m1 : f * n ≤ 96 * 8 := Int.mul_le_mul f1 hn8 (by omega) (by omega)
  clear h hf
  go_enter Try.func37, Try.ntmps37
  go_wp2_with fail
  refine (cright_any _ _).mono ?_; rintro e w' ⟨rfl, rfl⟩
  rw [H.out]
  go_wp2_with fail
  refine (factors_any _).mono ?_
  rintro e w1 ⟨rfl, hown, hb⟩
  obtain ⟨c, hrun, hat, hwc⟩ := hown.lookup_int strKey Try.underlying62 Try.underlying3 (zeroInt _) (key_lit a ha)
  rw [HF.out] at hat
  injection hat with hat
  injection hat with _ hat
  subst hat
  have HH := Lib.hid hown
  clear hown
  go_wp2
  go_ret
  exact ⟨rfl, bel⟩
end Go.Proofs.Ytijgabippedhpaa
