
import Derived.Test.YtkdmmomfolhfbaaRows
import Derived.Test.YtkdmmomfolhfbaaPure
import Derived.Test.YtkdmmomfolhfbaaMem
import Derived.WalkKit
import Derived.WalkLawsBesides
import Derived.WalkSpells
import Derived.Outline
import Derived.Lib.Hide
import Derived.Maps.Own
import Derived.StringKeys
import Derived.Maps.OwnOps
namespace Go.Proofs.Ytkdmmomfolhfbaa
set_option linter.unusedVariables false
set_option linter.unusedSimpArgs false
open Go.ChangeShapes Go.WideShapes Go.RowKit
open Go.Maps Go.WideMaps

theorem strKey : Keyed Try.prog 9 := string_keyed Try.underlying9
theorem zeroInt (w : World) : (zeroValue 3).run Try.prog w = .ok (.int .i64 0) w := by kernel_rfl

theorem cright_any (n : Int) (w : World) :
    Calls Try.prog 48 #[.int .i64 n] w fun e w' => e = .returned (.bool (Conf.right n)) ∧ w = w' := by
  go_enter Try.func48, Try.ntmps48
  go_wp2
  all_goals
    go_ret
    exact ⟨ret_bool (by simp [Conf.right, *] <;> omega), rfl⟩
theorem refCright_any (n : Int) (w : World) :
    Calls Try.prog 26 #[.int .i64 n] w fun e w' => e = .returned (.bool (Conf.right n)) ∧ w = w' := by
  go_enter Try.func26, Try.ntmps26
  go_wp2
  all_goals
    go_ret
    exact ⟨ret_bool (by simp [Conf.right, *] <;> omega), rfl⟩
/-- The table of factors, as it reads. -/
def table : DataW Unit := (((((((DataW.map []).put (.string [66, 108, 111, 99, 107]) (.lit (.int .i64 2))).put (.string [87, 97, 116, 99, 104]) (.lit (.int .i64 8))).put (.string [76, 97, 116, 101, 114]) (.lit (.int .i64 3))).put (.string [83, 116, 97, 114, 116]) (.lit (.int .i64 40))).put (.string [83, 116, 97, 98, 108, 101]) (.lit (.int .i64 96))).put (.string [76, 105, 115, 116, 101, 110]) (.lit (.int .i64 4))).put (.string [67, 111, 108, 100]) (.lit (.int .i64 2))
theorem key_lit (a : Array UInt8) (h : a.size ≤ 100) : keyOf Try.prog 9 (.string ⟨a⟩) = some (.string a.toList) :=
  keyOf_string_mk Try.underlying9 (by unfold maxLen; show a.size ≤ _; omega)
theorem val_ok (v : Int) (h : (Lit.int .i64 v).wf = true) : plainElem (H := Unit) Try.prog 3 (.int .i64 v) = some (.lit (.int .i64 v), []) := plainElem_int Try.underlying3 h
theorem factors_any (w : World) :
    Calls Try.prog 60 #[] w fun e w' => e = .returned (.map (some w.heap.size)) ∧ w'.ownsMap Try.prog 9 (plainElem Try.prog 3) w.heap.size 7 table ∧ Below w.heap.size w w' := by
  have hmm := @run_makeMap Try.prog
  have o0 := World.ownsMap_made (H := Unit) w Try.prog 9 (plainElem Try.prog 3)
  have b0 := kalloc (Below.refl w.heap.size w) (.map #[] 0)
  obtain ⟨w1, r1, o1, g1⟩ := o0.update strKey Try.underlying71 (by unfold maxLen; omega) (key_lit #[66, 108, 111, 99, 107] (by decide)) (val_ok 2 (by decide))
  have b1 := b0.grown g1 b0.size (by intro k hk; injection hk with hk; omega)
  obtain ⟨w2, r2, o2, g2⟩ := o1.update strKey Try.underlying71 (by unfold maxLen; omega) (key_lit #[87, 97, 116, 99, 104] (by decide)) (val_ok 8 (by decide))
  have b2 := b1.grown g2 b1.size (by intro k hk; injection hk with hk; omega)
  obtain ⟨w3, r3, o3, g3⟩ := o2.update strKey Try.underlying71 (by unfold maxLen; omega) (key_lit #[76, 97, 116, 101, 114] (by decide)) (val_ok 3 (by decide))
  have b3 := b2.grown g3 b2.size (by intro k hk; injection hk with hk; omega)
  obtain ⟨w4, r4, o4, g4⟩ := o3.update strKey Try.underlying71 (by unfold maxLen; omega) (key_lit #[83, 116, 97, 114, 116] (by decide)) (val_ok 40 (by decide))
  have b4 := b3.grown g4 b3.size (by intro k hk; injection hk with hk; omega)
  obtain ⟨w5, r5, o5, g5⟩ := o4.update strKey Try.underlying71 (by unfold maxLen; omega) (key_lit #[83, 116, 97, 98, 108, 101] (by decide)) (val_ok 96 (by decide))
  have b5 := b4.grown g5 b4.size (by intro k hk; injection hk with hk; omega)
  obtain ⟨w6, r6, o6, g6⟩ := o5.update strKey Try.underlying71 (by unfold maxLen; omega) (key_lit #[76, 105, 115, 116, 101, 110] (by decide)) (val_ok 4 (by decide))
  have b6 := b5.grown g6 b5.size (by intro k hk; injection hk with hk; omega)
  obtain ⟨w7, r7, o7, g7⟩ := o6.update strKey Try.underlying71 (by unfold maxLen; omega) (key_lit #[67, 111, 108, 100] (by decide)) (val_ok 2 (by decide))
  have b7 := b6.grown g7 b6.size (by intro k hk; injection hk with hk; omega)
  have HO := Lib.hid o7
  have HB := Lib.hid b7
  clear o0 o1 o2 o3 o4 o5 o6 o7 b0 b1 b2 b3 b4 b5 b6 b7 g1 g2 g3 g4 g5 g6 g7
  go_enter Try.func60, Try.ntmps60
  go_wp2
  go_ret
  exact ⟨rfl, HO.out, HB.out⟩

theorem rounds_no (s : ByteArray) (n : Int) (h : Conf.right n = false) (w : World) :
    Calls Try.prog 53 #[.string s, .int .i64 n] w fun e w' => e = .returned (.int .i64 0) ∧ Below w.heap.size w w' := by
  have H := Lib.hid h
  clear h
  go_enter Try.func53, Try.ntmps53
  go_wp2_with fail
  refine (cright_any _ _).mono ?_; rintro e w' ⟨rfl, rfl⟩
  rw [H.out]
  go_wp2
  go_ret
  exact ⟨rfl, bel⟩
theorem rounds_yes (a : Array UInt8) (f n : Int) (ha : a.size ≤ 100) (hf : table.atKey (.string a.toList) (.lit (.int .i64 0)) = .lit (.int .i64 f)) (f0 : 0 ≤ f) (f1 : f ≤ 96) (h : Conf.right n = true) (w : World) :
    Calls Try.prog 53 #[.string ⟨a⟩, .int .i64 n] w fun e w' => e = .returned (.int .i64 (f * n)) ∧ Below w.heap.size w w' := by
  obtain ⟨hn3, hn8⟩ := Conf.right_spec.1 h
  have H := Lib.hid h
  have HF := Lib.hid hf
  have m0 : 0 ≤ f * n := Int.mul_nonneg f0 (by omega)
  have m1 : f * n ≤ 96 * 8 := Int.mul_le_mul f1 hn8 (by omega) (by omega)
  clear h hf
  go_enter Try.func53, Try.ntmps53
  go_wp2_with fail
  refine (cright_any _ _).mono ?_; rintro e w' ⟨rfl, rfl⟩
  rw [H.out]
  go_wp2_with fail
  refine (factors_any _).mono ?_
  rintro e w1 ⟨rfl, hown, hb⟩
  obtain ⟨c, hrun, hat, hwc⟩ := hown.lookup_int strKey Try.underlying71 Try.underlying3 (zeroInt _) (key_lit a ha)
  rw [HF.out] at hat
  injection hat with hat
  injection hat with _ hat
  subst hat
  have HH := Lib.hid hown
  clear hown
  go_wp2
  go_ret
  exact ⟨rfl, bel⟩
end Go.Proofs.Ytkdmmomfolhfbaa
namespace Go.Proofs.Ytkdmmomfolhfbaa
set_option linter.unusedVariables false
set_option linter.unusedSimpArgs false
open Go.ChangeShapes Go.WideShapes Go.RowKit

theorem rounds_tm (a : Array UInt8) (f n : Int) (ha : a.size ≤ 100) (hf : table.atKey (.string a.toList) (.lit (.int .i64 0)) = .lit (.int .i64 f)) (f0 : 0 ≤ f) (f1 : f ≤ 96) (w : World) :
    Calls Try.prog 53 #[.string ⟨a⟩, .int .i64 n] w fun e w' => e = .returned (.int .i64 (Conf.tm n f)) ∧ Below w.heap.size w w' := by
  by_cases h : Conf.right n = true
  · rw [Conf.tm_yes h]; exact rounds_yes a f n ha hf f0 f1 h w
  · have h := Bool.eq_false_iff.2 h
    rw [Conf.tm_no h]; exact rounds_no _ n h w
theorem times_tm (n f : Int) (f0 : 0 ≤ f) (f1 : f ≤ 96) (w : World) :
    Calls Try.prog 47 #[.int .i64 n, .int .i64 f] w fun e w' => e = .returned (.int .i64 (Conf.tm n f)) ∧ w = w' := by
  by_cases h : Conf.right n = true
  · rw [Conf.tm_yes h]
    obtain ⟨hn3, hn8⟩ := Conf.right_spec.1 h
    have H := Lib.hid h
    have m0 : 0 ≤ n * f := Int.mul_nonneg (by omega) f0
    have m1 : n * f ≤ 8 * 96 := Int.mul_le_mul hn8 f1 (by omega) (by omega)
    clear h
    go_enter Try.func47, Try.ntmps47
    go_wp2_with fail
    refine (refCright_any _ _).mono ?_; rintro e w' ⟨rfl, rfl⟩
    rw [H.out]
    go_wp2
    go_ret
    exact ⟨ret_int (Int.mul_comm _ _), rfl⟩
  · have h := Bool.eq_false_iff.2 h
    rw [Conf.tm_no h]
    have H := Lib.hid h
    clear h
    go_enter Try.func47, Try.ntmps47
    go_wp2_with fail
    refine (refCright_any _ _).mono ?_; rintro e w' ⟨rfl, rfl⟩
    rw [H.out]
    go_wp2
    go_ret
    exact ⟨rfl, rfl⟩
theorem cBlock_any (n : Int) (w : World) :
    Calls Try.prog 38 #[.int .i64 n] w fun e w' => e = .returned (.int .i64 (Conf.tm n 2)) ∧ Below w.heap.size w w' := by
  go_enter Try.func38, Try.ntmps38
  go_wp2_with fail
  refine (rounds_tm #[66, 108, 111, 99, 107] 2 _ (by decide) (by kernel_rfl) (by decide) (by decide) _).mono ?_; rintro e w1 ⟨rfl, hb⟩; obtain ⟨hc, hf, hz⟩ := bcall hb; (try simp only [World.size_alloc, World.heap_drewN] at hz)
  go_wp2
  go_ret
  exact ⟨rfl, bel⟩
theorem refCBlock_any (n : Int) (w : World) :
    Calls Try.prog 28 #[.int .i64 n] w fun e w' => e = .returned (.int .i64 (Conf.tm n 2)) ∧ w = w' := by
  go_enter Try.func28, Try.ntmps28
  go_wp2_with fail
  refine (times_tm _ 2 (by decide) (by decide) _).mono ?_; rintro e w' ⟨rfl, rfl⟩
  go_wp2
  go_ret
  exact ⟨rfl, rfl⟩
end Go.Proofs.Ytkdmmomfolhfbaa
namespace Go.Proofs.Ytkdmmomfolhfbaa
set_option linter.unusedVariables false
set_option linter.unusedSimpArgs false
open Go.ChangeShapes Go.WideShapes Go.RowKit

theorem clamp_any (c l m : Int) (hc : -9223372036854775808 ≤ c ∧ c ≤ 9223372036854775807) (hl : -9223372036854775808 ≤ l ∧ l ≤ 9223372036854775807) (hm : -9223372036854775808 ≤ m ∧ m ≤ 9223372036854775807) (w : World) :
    Calls Try.prog 49 #[.int .i64 c, .int .i64 l, .int .i64 m] w fun e w' => e = .returned (.int .i64 (Tally.clamp c l m)) ∧ w = w' := by
  by_cases h : c < l
  all_goals
    go_enter Try.func49, Try.ntmps49
    go_wp2
    all_goals
      go_ret
      exact ⟨ret_int (by simp only [Tally.clamp] <;> (repeat split) <;> omega), rfl⟩
theorem down_any (c : Int) (hc : -9223372036854775808 ≤ c ∧ c ≤ 9223372036854775807) (w : World) :
    Calls Try.prog 32 #[.int .i64 c] w fun e w' => e = .returned (.int .i64 (Tally.down c)) ∧ w = w' := by
  go_enter Try.func32, Try.ntmps32
  go_wp2
  all_goals
    go_ret
    exact ⟨ret_int (by simp only [Tally.down] <;> (repeat split) <;> omega), rfl⟩
theorem refDown_any (c : Int) (hc : -9223372036854775808 ≤ c ∧ c ≤ 9223372036854775807) (w : World) :
    Calls Try.prog 42 #[.int .i64 c] w fun e w' => e = .returned (.int .i64 (Tally.down c)) ∧ w = w' := by
  go_enter Try.func42, Try.ntmps42
  go_wp2
  all_goals
    go_ret
    exact ⟨ret_int (by simp only [Tally.down] <;> (repeat split) <;> omega), rfl⟩
theorem refUp_any (c m : Int) (hc : -9223372036854775808 ≤ c ∧ c ≤ 9223372036854775807) (hm : -9223372036854775808 ≤ m ∧ m ≤ 9223372036854775807) (w : World) :
    Calls Try.prog 41 #[.int .i64 c, .int .i64 m] w fun e w' => e = .returned (.int .i64 (Tally.up c m)) ∧ w = w' := by
  go_enter Try.func41, Try.ntmps41
  go_wp2
  all_goals
    go_ret
    exact ⟨ret_int (by simp only [Tally.up] <;> (repeat split) <;> omega), rfl⟩
theorem up_any (c m : Int) (hc : -9223372036854775808 ≤ c ∧ c ≤ 9223372036854775807) (hm : -9223372036854775808 ≤ m ∧ m ≤ 9223372036854775807) (w : World) :
    Calls Try.prog 31 #[.int .i64 c, .int .i64 m] w fun e w' => e = .returned (.int .i64 (Tally.up c m)) ∧ w = w' := by
  have k0 : 0 ≤ Tally.clamp c 0 9223372036854775806 := by unfold Tally.clamp; (repeat split) <;> omega
  have k1 : Tally.clamp c 0 9223372036854775806 ≤ 9223372036854775806 := by unfold Tally.clamp; (repeat split) <;> omega
  have H := Lib.hid (show min (Tally.clamp c 0 9223372036854775806 + 1) m = Tally.up c m by unfold Tally.clamp Tally.up; (repeat split) <;> omega)
  go_enter Try.func31, Try.ntmps31
  go_wp2_with fail
  refine (clamp_any _ _ _ (by omega) (by omega) (by omega) _).mono ?_; rintro e w' ⟨rfl, rfl⟩
  generalize Tally.clamp c 0 9223372036854775806 = x at *
  have H2 := H.out
  go_wp2
  all_goals
    go_ret
    exact ⟨ret_int (by omega), rfl⟩
end Go.Proofs.Ytkdmmomfolhfbaa
namespace Go.Proofs.Ytkdmmomfolhfbaa
set_option linter.unusedVariables false
set_option linter.unusedSimpArgs false
open Go.ChangeShapes Go.WideShapes Go.RowKit

theorem mod_any (n x : Int) (h1 : 1 ≤ n) (h2 : n ≤ 1000000) (w : World) :
    Calls Try.prog 50 #[.int .i64 n, .int .i64 x] w fun e w' => e = .returned (.int .i64 (x % n)) ∧ w = w' := by
  have hb := Ring.tmod_bounds n x (by omega)
  have hn := Lib.hid (Ring.tmod_neg n x (by omega))
  have hp := Lib.hid (Ring.tmod_pos n x (by omega))
  have hm : (n == 0) = false := by simp; omega
  generalize hr : Int.tmod x n = r at *
  generalize x % n = m at *
  go_enter Try.func50, Try.ntmps50
  go_wp2
  all_goals
    go_ret
    exact ⟨ret_int (by first | exact hn.out (by simp_all; done) | exact hn.out (by simp_all; omega) | exact hp.out (by simp_all; done) | exact hp.out (by simp_all; omega)), rfl⟩
theorem refMod_any (n x : Int) (h1 : 1 ≤ n) (h2 : n ≤ 1000000) (w : World) :
    Calls Try.prog 55 #[.int .i64 n, .int .i64 x] w fun e w' => e = .returned (.int .i64 (x % n)) ∧ w = w' := by
  have hb := Ring.tmod_bounds n x (by omega)
  have hp := Ring.tmod_two n x (by omega)
  rw [Int.tmod_eq_emod_of_nonneg (by omega)] at hp
  have hp := Lib.hid hp
  have hm : (n == 0) = false := by simp; omega
  generalize hr : Int.tmod x n = r at *
  go_enter Try.func55, Try.ntmps55
  go_wp2
  go_ret
  exact ⟨ret_int hp.out, rfl⟩
theorem next_any (n p : Int) (h1 : 1 ≤ n) (h2 : n ≤ 1000000) (p0 : 0 ≤ p) (p1 : p < n) (w : World) :
    Calls Try.prog 33 #[.int .i64 n, .int .i64 p] w fun e w' => e = .returned (.int .i64 ((p + 1) % n)) ∧ w = w' := by
  go_enter Try.func33, Try.ntmps33
  go_wp2_with fail
  refine (mod_any _ _ (by omega) (by omega) _).mono ?_; rintro e w' ⟨rfl, rfl⟩
  go_wp2
  go_ret
  exact ⟨rfl, rfl⟩
theorem refNext_any (n p : Int) (h1 : 1 ≤ n) (h2 : n ≤ 1000000) (p0 : 0 ≤ p) (p1 : p < n) (w : World) :
    Calls Try.prog 43 #[.int .i64 n, .int .i64 p] w fun e w' => e = .returned (.int .i64 ((p + 1) % n)) ∧ w = w' := by
  go_enter Try.func43, Try.ntmps43
  go_wp2_with fail
  refine (refMod_any _ _ (by omega) (by omega) _).mono ?_; rintro e w' ⟨rfl, rfl⟩
  go_wp2
  go_ret
  exact ⟨rfl, rfl⟩
theorem at_any (n p a : Int) (h1 : 1 ≤ n) (h2 : n ≤ 1000000) (p0 : 0 ≤ p) (p1 : p < n) (a0 : 0 ≤ a) (a1 : a ≤ 1099511627776) (w : World) :
    Calls Try.prog 62 #[.int .i64 n, .int .i64 p, .int .i64 a] w fun e w' => e = .returned (.int .i64 ((p + a) % n)) ∧ w = w' := by
  go_enter Try.func62, Try.ntmps62
  go_wp2_with fail
  refine (mod_any _ _ (by omega) (by omega) _).mono ?_; rintro e w' ⟨rfl, rfl⟩
  go_wp2
  go_ret
  exact ⟨rfl, rfl⟩
theorem refAt_any (n p a : Int) (h1 : 1 ≤ n) (h2 : n ≤ 1000000) (p0 : 0 ≤ p) (p1 : p < n) (a0 : 0 ≤ a) (a1 : a ≤ 1099511627776) (w : World) :
    Calls Try.prog 61 #[.int .i64 n, .int .i64 p, .int .i64 a] w fun e w' => e = .returned (.int .i64 ((p + a) % n)) ∧ w = w' := by
  go_enter Try.func61, Try.ntmps61
  go_wp2_with fail
  refine (refMod_any _ _ (by omega) (by omega) _).mono ?_; rintro e w' ⟨rfl, rfl⟩
  go_wp2
  go_ret
  exact ⟨rfl, rfl⟩
end Go.Proofs.Ytkdmmomfolhfbaa
