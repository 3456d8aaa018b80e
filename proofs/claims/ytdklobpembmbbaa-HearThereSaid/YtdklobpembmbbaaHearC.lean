
import Derived.Test.YtdklobpembmbbaaRows
import Derived.Test.YtdklobpembmbbaaHearB
import Derived.LoopN
import Derived.LoopTactic
import Derived.Deep.QuietTactic
import Derived.BigQuiet
import Derived.RegionTactic
import Derived.ChangeKeysEq
namespace Go.Proofs.Ytdklobpembmbbaa
set_option linter.unusedVariables false
open Go.ChangeShapes Go.WideShapes Go.RowKit

/-- '==' at two frames, and at two arrays of two frames. -/
theorem frame_eq (d : Nat) (a b a' b' : Int) (w : World) : (Op.equalIn (d + 2) 23 (.agg #[.int .i64 a, .int .i64 b]) (.agg #[.int .i64 a', .int .i64 b'])).run Try.prog w = .ok (a == a' && b == b') w := by
  rw [run_equalIn_agg w (d + 1) 23 _ _ (by kernel_rfl) (by kernel_rfl)]
  cases h : a == a' <;> cases h2 : b == b' <;> simp_all [go_sem]
theorem part0 (a b c d : Value) (w : World) : (part 23 #[a, b, c, d] (0 * Try.prog.cellsOf 23)).run Try.prog w = .ok (.agg #[a, b]) w := by kernel_rfl
theorem part1 (a b c d : Value) (w : World) : (part 23 #[a, b, c, d] (1 * Try.prog.cellsOf 23)).run Try.prog w = .ok (.agg #[c, d]) w := by kernel_rfl
theorem two_eq (a b c d a' b' c' d' : Int) (w : World) : (Op.equalIn 10000 24 (.agg #[.int .i64 a, .int .i64 b, .int .i64 c, .int .i64 d]) (.agg #[.int .i64 a', .int .i64 b', .int .i64 c', .int .i64 d'])).run Try.prog w = .ok (a == a' && b == b' && (c == c' && d == d')) w := by
  obtain ⟨i, hi⟩ := Option.isSome_iff_exists.1 (show (Try.prog.info? 23).isSome = true by kernel_rfl)
  rw [show (10000 : Nat) = 9999 + 1 from rfl, run_equalIn_array w 9999 _ _ Try.underlying24 hi, show List.range 2 = [0, 1] from rfl]
  simp only [Op.eqItems, Sem.run_bind, part0, part1, Result.andThen_ok, frame_eq 9997]
  cases h : (a == a' && b == b')
  · simp
  · simp only [Bool.not_true, Bool.false_eq_true, if_false, Sem.run_bind, part0, part1, Result.andThen_ok, frame_eq 9997]
    cases h2 : (c == c' && d == d') <;> simp
attribute [local go_sem] two_eq

theorem refPut_two (w : World) :
    Calls Try.prog 16 #[.agg #[.int .i64 2, .int .i64 2]] w fun e w' => e = .returned (.string ⟨(Wire.bytes 2 2).toArray⟩) ∧ Below w.heap.size w w' := refPut_right 2 2 (by decide +kernel) w
theorem hearOf_lit (w : World) :
    Calls Try.prog 6 #[.int .i64 3, .string ⟨#[120]⟩, .string ⟨(Wire.bytes 2 2).toArray⟩] w fun e w' => e = .returned (.tuple #[.agg #[.int .i64 0, .int .i64 0, .int .i64 2, .int .i64 2], .int .i64 0]) ∧ Below w.heap.size w w' := by
  have h := hearOf_yes 3 ⟨#[120]⟩ ⟨(Wire.bytes 2 2).toArray⟩ (by decide +kernel) (by decide +kernel) rfl w
  have e : Hear.of 3 (ByteArray.mk #[120]).data.toList (ByteArray.mk (Wire.bytes 2 2).toArray).data.toList = #[.int .i64 0, .int .i64 0, .int .i64 2, .int .i64 2] := by
    have e1 : Hear.hk 3 (ByteArray.mk #[120]).data.toList = 0 := by decide +kernel
    have e2 : Hear.hi 3 (ByteArray.mk #[120]).data.toList = 0 := by decide +kernel
    have e3 : Hear.hk 3 (ByteArray.mk (Wire.bytes 2 2).toArray).data.toList = 2 := by decide +kernel
    have e4 : Hear.hi 3 (ByteArray.mk (Wire.bytes 2 2).toArray).data.toList = 2 := by decide +kernel
    unfold Hear.of
    rw [e1, e2, e3, e4]
  rw [e] at h
  exact h
theorem awake7_any (w : World) :
    Calls Try.prog 5 #[] w fun e w' => e = .returned (.bool true) ∧ Below w.heap.size w w' := by
  have PT := Lib.hid refPut_two
  have OF := Lib.hid hearOf_lit
  generalize (ByteArray.mk (Wire.bytes 2 2).toArray) = s at *
  go_enter Try.func5, Try.ntmps5
  go_wp2_with fail
  refine (PT.out _).mono ?_; rintro e w1 ⟨rfl, hb⟩; have hz := hb.size; try simp only [World.size_alloc, World.heap_drewN, World.size_setCell] at hz
  have HB1 := Lib.hid (show Below w.heap.size w w1 from (by with_reducible repeat (first | exact Below.refl _ _ | apply kalloc | apply kept_drewN | (refine kset ?_ (by first | (simp; done) | (simp; omega)) _) | assumption | (refine bthru (by assumption) ?_))))
  clear hb
  go_wp2_with fail
  refine (OF.out _).mono ?_; rintro e w2 ⟨rfl, hb⟩; have hz := hb.size; try simp only [World.size_alloc, World.heap_drewN, World.size_setCell] at hz
  have HB2 := Lib.hid (show Below w.heap.size w w2 from by have := HB1.out; exact (by with_reducible repeat (first | exact Below.refl _ _ | apply kalloc | apply kept_drewN | (refine kset ?_ (by first | (simp; done) | (simp; omega)) _) | assumption | (refine bthru (by assumption) ?_))))
  clear hb
  go_wp2_with fail
  refine (hearOf_no 2 _ _ rfl _).mono ?_; rintro e w3 ⟨rfl, hb⟩; have hz := hb.size; try simp only [World.size_alloc, World.heap_drewN, World.size_setCell] at hz
  have HB3 := Lib.hid (show Below w.heap.size w w3 from by have := HB2.out; exact (by with_reducible repeat (first | exact Below.refl _ _ | apply kalloc | apply kept_drewN | (refine kset ?_ (by first | (simp; done) | (simp; omega)) _) | assumption | (refine bthru (by assumption) ?_))))
  have z_ra : (w2.heap.size) < w3.heap.size := (by omega); have ra : w3.rangeAt (w2.heap.size) 0 [.int .i64 0, .int .i64 0, .int .i64 2, .int .i64 2] := (by with_reducible repeat (first | exact range_new_at _ _ _ (by first | omega | (simp; done) | (simp; omega)) | apply range_put | (with_unfolding_all rfl) | (refine range_alloc ?_ (by first | omega | (simp; done) | (simp; omega)) _) | (refine range_drewN ?_ _) | (refine range_far ?_ (by first | omega | (simp; done) | (simp; omega)) _) | assumption | (refine range_below ?_ (by assumption) (by first | omega | (simp; done) | (simp; omega)))))
  clear hb
  have ra_0 := range_cell ra 0 rfl; have ra_1 := range_cell ra 1 rfl; have ra_2 := range_cell ra 2 rfl; have ra_3 := range_cell ra 3 rfl
  go_wp2_with fail
  refine (wrong_any _ _ _ _ _ _).mono ?_; rintro e w4 ⟨rfl, hb⟩; have hz := hb.size; try simp only [World.size_alloc, World.heap_drewN, World.size_setCell] at hz
  rw [show (Hear.isWrong 1 0 0 || Hear.isWrong 1 2 2) = true from rfl]
  have HB4 := Lib.hid (show Below w.heap.size w w4 from by have := HB3.out; exact (by with_reducible repeat (first | exact Below.refl _ _ | apply kalloc | apply kept_drewN | (refine kset ?_ (by first | (simp; done) | (simp; omega)) _) | assumption | (refine bthru (by assumption) ?_))))
  have z_ra : (w2.heap.size) < w4.heap.size := (by omega); have ra : w4.rangeAt (w2.heap.size) 0 [.int .i64 0, .int .i64 0, .int .i64 2, .int .i64 2] := (by with_reducible repeat (first | exact range_new_at _ _ _ (by first | omega | (simp; done) | (simp; omega)) | apply range_put | (with_unfolding_all rfl) | (refine range_alloc ?_ (by first | omega | (simp; done) | (simp; omega)) _) | (refine range_drewN ?_ _) | (refine range_far ?_ (by first | omega | (simp; done) | (simp; omega)) _) | assumption | (refine range_below ?_ (by assumption) (by first | omega | (simp; done) | (simp; omega)))))
  clear hb
  have ra_0 := range_cell ra 0 rfl; have ra_1 := range_cell ra 1 rfl; have ra_2 := range_cell ra 2 rfl; have ra_3 := range_cell ra 3 rfl
  go_wp2_with fail
  refine (match_any _ _ _ _ _ _).mono ?_; rintro e w5 ⟨rfl, hb⟩; have hz := hb.size; try simp only [World.size_alloc, World.heap_drewN, World.size_setCell] at hz
  rw [show (Hear.isMatch 2 0 0 || Hear.isMatch 2 2 2) = true from rfl]
  have := HB4.out
  go_wp2
  go_ret
  exact ⟨rfl, (by with_reducible repeat (first | exact Below.refl _ _ | apply kalloc | apply kept_drewN | (refine kset ?_ (by first | (simp; done) | (simp; omega)) _) | assumption | (refine bthru (by assumption) ?_)))⟩
/-- Both say the same, whatever it is. -/
theorem hearOf_both (n : Int) (a b : ByteArray) (ha : a.size ≤ maxLen) (hb : b.size ≤ maxLen) : ∃ x0 x1 x2 x3 er : Int,
    (∀ w, Calls Try.prog 6 #[.int .i64 n, .string a, .string b] w fun e w' => e = .returned (.tuple #[.agg #[.int .i64 x0, .int .i64 x1, .int .i64 x2, .int .i64 x3], .int .i64 er]) ∧ Below w.heap.size w w') ∧
    (∀ w, Calls Try.prog 7 #[.int .i64 n, .string a, .string b] w fun e w' => e = .returned (.tuple #[.agg #[.int .i64 x0, .int .i64 x1, .int .i64 x2, .int .i64 x3], .int .i64 er]) ∧ Below w.heap.size w w') := by
  by_cases h : Conf.right n = true
  · exact ⟨_, _, _, _, _, fun w => hearOf_yes n a b ha hb h w, fun w => refHearOf_yes n a b h w⟩
  · exact ⟨_, _, _, _, _, fun w => hearOf_no n a b (Bool.eq_false_iff.2 h) w, fun w => refHearOf_no n a b (Bool.eq_false_iff.2 h) w⟩
theorem hearTells_big1 (n : Int) (a b : ByteArray) (k0 i0 k1 i1 p i : Int) (h : decide ((100 : Int) < a.size) = true) (w : World) :
    Calls Try.prog 3 #[.agg #[.int .i64 n, .string a, .string b, .int .i64 k0, .int .i64 i0, .int .i64 k1, .int .i64 i1, .int .i64 p, .int .i64 i]] w fun e w' => e = .returned (.bool true) ∧ Below w.heap.size w w' := by
  go_enter Try.func3, Try.ntmps3
  go_wp2_with fail
  refine (awake7_any _).mono ?_; rintro e w1 ⟨rfl, hb⟩; obtain ⟨hc, hf, hz⟩ := bcall hb; try simp only [World.size_alloc, World.heap_drewN] at hz
  go_wp2
  go_ret
  exact ⟨rfl, (by with_reducible repeat (first | exact Below.refl _ _ | apply kalloc | apply kept_drewN | (refine kset ?_ (by first | (simp; done) | (simp; omega)) _) | assumption | (refine bthru (by assumption) ?_)))⟩
theorem hearTells_big2 (n : Int) (a b : ByteArray) (k0 i0 k1 i1 p i : Int) (h : decide ((100 : Int) < a.size) = false) (h2 : decide ((100 : Int) < b.size) = true) (w : World) :
    Calls Try.prog 3 #[.agg #[.int .i64 n, .string a, .string b, .int .i64 k0, .int .i64 i0, .int .i64 k1, .int .i64 i1, .int .i64 p, .int .i64 i]] w fun e w' => e = .returned (.bool true) ∧ Below w.heap.size w w' := by
  go_enter Try.func3, Try.ntmps3
  go_wp2_with fail
  refine (awake7_any _).mono ?_; rintro e w1 ⟨rfl, hb⟩; obtain ⟨hc, hf, hz⟩ := bcall hb; try simp only [World.size_alloc, World.heap_drewN] at hz
  go_wp2
  go_ret
  exact ⟨rfl, (by with_reducible repeat (first | exact Below.refl _ _ | apply kalloc | apply kept_drewN | (refine kset ?_ (by first | (simp; done) | (simp; omega)) _) | assumption | (refine bthru (by assumption) ?_)))⟩
set_option maxHeartbeats 1000000 in
theorem hearTells_small (n : Int) (a : ByteArray) (ha : a.size ≤ maxLen) (b : ByteArray) (hb' : b.size ≤ maxLen) (k0 i0 k1 i1 p i : Int) (h : decide ((100 : Int) < a.size) = false) (h2 : decide ((100 : Int) < b.size) = false) (w : World) :
    Calls Try.prog 3 #[.agg #[.int .i64 n, .string a, .string b, .int .i64 k0, .int .i64 i0, .int .i64 k1, .int .i64 i1, .int .i64 p, .int .i64 i]] w fun e w' => e = .returned (.bool true) ∧ Below w.heap.size w w' := by
  obtain ⟨x0, x1, x2, x3, er, O1, O2⟩ := hearOf_both n a b ha hb'
  have O1 := Lib.hid O1
  have O2 := Lib.hid O2
  have IN := Lib.hid (info_any k0 i0 k1 i1)
  have IR := Lib.hid (refInfo_any k0 i0 k1 i1)
  have ON := Lib.hid (other_any k0 i0 k1 i1 i)
  have OR := Lib.hid (refOther_any k0 i0 k1 i1 i)
  have WN := Lib.hid (wrong_any k0 i0 k1 i1 p)
  have WR := Lib.hid (refWrong_any k0 i0 k1 i1 p)
  have MN := Lib.hid (match_any k0 i0 k1 i1 p)
  have MR := Lib.hid (refMatch_any k0 i0 k1 i1 p)
  generalize Hear.firstI (Hear.isInfo k0) (Hear.isInfo k1) i0 i1 = f1 at *
  generalize (Hear.isInfo k0 || Hear.isInfo k1) = g1 at *
  generalize Hear.firstI (Hear.isOther i k0 i0) (Hear.isOther i k1 i1) i0 i1 = f2 at *
  generalize (Hear.isOther i k0 i0 || Hear.isOther i k1 i1) = g2 at *
  generalize (Hear.isWrong p k0 i0 || Hear.isWrong p k1 i1) = g3 at *
  generalize (Hear.isMatch p k0 i0 || Hear.isMatch p k1 i1) = g4 at *
  go_enter Try.func3, Try.ntmps3
  go_wp2_with fail
  refine (O1.out _).mono ?_; rintro e w1 ⟨rfl, hb⟩; have hz := hb.size; try simp only [World.size_alloc, World.heap_drewN, World.size_setCell] at hz
  have HB1 := Lib.hid (show Below w.heap.size w w1 from (by with_reducible repeat (first | exact Below.refl _ _ | apply kalloc | apply kept_drewN | (refine kset ?_ (by first | (simp; done) | (simp; omega)) _) | assumption | (refine bthru (by assumption) ?_))))
  have z_rz : (w.heap.size) < w1.heap.size := (by omega); have rz : w1.rangeAt (w.heap.size) 0 [.int .i64 n, .string a, .string b, .int .i64 k0, .int .i64 i0, .int .i64 k1, .int .i64 i1, .int .i64 p, .int .i64 i] := (by with_reducible repeat (first | exact range_new_at _ _ _ (by first | omega | (simp; done) | (simp; omega)) | apply range_put | (with_unfolding_all rfl) | (refine range_alloc ?_ (by first | omega | (simp; done) | (simp; omega)) _) | (refine range_drewN ?_ _) | (refine range_far ?_ (by first | omega | (simp; done) | (simp; omega)) _) | assumption | (refine range_below ?_ (by assumption) (by first | omega | (simp; done) | (simp; omega)))))
  clear hb
  have rz_0 := range_cell rz 0 rfl; have rz_1 := range_cell rz 1 rfl; have rz_2 := range_cell rz 2 rfl; have rz_3 := range_cell rz 3 rfl; have rz_4 := range_cell rz 4 rfl; have rz_5 := range_cell rz 5 rfl; have rz_6 := range_cell rz 6 rfl; have rz_7 := range_cell rz 7 rfl; have rz_8 := range_cell rz 8 rfl
  go_wp2_with fail
  refine (O2.out _).mono ?_; rintro e w2 ⟨rfl, hb⟩; have hz := hb.size; try simp only [World.size_alloc, World.heap_drewN, World.size_setCell] at hz
  have HB2 := Lib.hid (show Below w.heap.size w w2 from by have := HB1.out; exact (by with_reducible repeat (first | exact Below.refl _ _ | apply kalloc | apply kept_drewN | (refine kset ?_ (by first | (simp; done) | (simp; omega)) _) | assumption | (refine bthru (by assumption) ?_))))
  have z_rz : (w.heap.size) < w2.heap.size := (by omega); have rz : w2.rangeAt (w.heap.size) 0 [.int .i64 n, .string a, .string b, .int .i64 k0, .int .i64 i0, .int .i64 k1, .int .i64 i1, .int .i64 p, .int .i64 i] := (by with_reducible repeat (first | exact range_new_at _ _ _ (by first | omega | (simp; done) | (simp; omega)) | apply range_put | (with_unfolding_all rfl) | (refine range_alloc ?_ (by first | omega | (simp; done) | (simp; omega)) _) | (refine range_drewN ?_ _) | (refine range_far ?_ (by first | omega | (simp; done) | (simp; omega)) _) | assumption | (refine range_below ?_ (by assumption) (by first | omega | (simp; done) | (simp; omega)))))
  have z_ra : (w1.heap.size) < w2.heap.size := (by omega); have ra : w2.rangeAt (w1.heap.size) 0 [.int .i64 x0, .int .i64 x1, .int .i64 x2, .int .i64 x3] := (by with_reducible repeat (first | exact range_new_at _ _ _ (by first | omega | (simp; done) | (simp; omega)) | apply range_put | (with_unfolding_all rfl) | (refine range_alloc ?_ (by first | omega | (simp; done) | (simp; omega)) _) | (refine range_drewN ?_ _) | (refine range_far ?_ (by first | omega | (simp; done) | (simp; omega)) _) | assumption | (refine range_below ?_ (by assumption) (by first | omega | (simp; done) | (simp; omega)))))
  clear hb
  have rz_0 := range_cell rz 0 rfl; have rz_1 := range_cell rz 1 rfl; have rz_2 := range_cell rz 2 rfl; have rz_3 := range_cell rz 3 rfl; have rz_4 := range_cell rz 4 rfl; have rz_5 := range_cell rz 5 rfl; have rz_6 := range_cell rz 6 rfl; have rz_7 := range_cell rz 7 rfl; have rz_8 := range_cell rz 8 rfl
  go_wp2_with fail
  refine (IN.out _).mono ?_; rintro e w3 ⟨rfl, hb⟩; have hz := hb.size; try simp only [World.size_alloc, World.heap_drewN, World.size_setCell] at hz
  have HB3 := Lib.hid (show Below w.heap.size w w3 from by have := HB2.out; exact (by with_reducible repeat (first | exact Below.refl _ _ | apply kalloc | apply kept_drewN | (refine kset ?_ (by first | (simp; done) | (simp; omega)) _) | assumption | (refine bthru (by assumption) ?_))))
  have z_rz : (w.heap.size) < w3.heap.size := (by omega); have rz : w3.rangeAt (w.heap.size) 0 [.int .i64 n, .string a, .string b, .int .i64 k0, .int .i64 i0, .int .i64 k1, .int .i64 i1, .int .i64 p, .int .i64 i] := (by with_reducible repeat (first | exact range_new_at _ _ _ (by first | omega | (simp; done) | (simp; omega)) | apply range_put | (with_unfolding_all rfl) | (refine range_alloc ?_ (by first | omega | (simp; done) | (simp; omega)) _) | (refine range_drewN ?_ _) | (refine range_far ?_ (by first | omega | (simp; done) | (simp; omega)) _) | assumption | (refine range_below ?_ (by assumption) (by first | omega | (simp; done) | (simp; omega)))))
  have z_ra : (w1.heap.size) < w3.heap.size := (by omega); have ra : w3.rangeAt (w1.heap.size) 0 [.int .i64 x0, .int .i64 x1, .int .i64 x2, .int .i64 x3] := (by with_reducible repeat (first | exact range_new_at _ _ _ (by first | omega | (simp; done) | (simp; omega)) | apply range_put | (with_unfolding_all rfl) | (refine range_alloc ?_ (by first | omega | (simp; done) | (simp; omega)) _) | (refine range_drewN ?_ _) | (refine range_far ?_ (by first | omega | (simp; done) | (simp; omega)) _) | assumption | (refine range_below ?_ (by assumption) (by first | omega | (simp; done) | (simp; omega)))))
  have z_rb : (w2.heap.size) < w3.heap.size := (by omega); have rb : w3.rangeAt (w2.heap.size) 0 [.int .i64 x0, .int .i64 x1, .int .i64 x2, .int .i64 x3] := (by with_reducible repeat (first | exact range_new_at _ _ _ (by first | omega | (simp; done) | (simp; omega)) | apply range_put | (with_unfolding_all rfl) | (refine range_alloc ?_ (by first | omega | (simp; done) | (simp; omega)) _) | (refine range_drewN ?_ _) | (refine range_far ?_ (by first | omega | (simp; done) | (simp; omega)) _) | assumption | (refine range_below ?_ (by assumption) (by first | omega | (simp; done) | (simp; omega)))))
  clear hb
  have rz_0 := range_cell rz 0 rfl; have rz_1 := range_cell rz 1 rfl; have rz_2 := range_cell rz 2 rfl; have rz_3 := range_cell rz 3 rfl; have rz_4 := range_cell rz 4 rfl; have rz_5 := range_cell rz 5 rfl; have rz_6 := range_cell rz 6 rfl; have rz_7 := range_cell rz 7 rfl; have rz_8 := range_cell rz 8 rfl
  go_wp2_with fail
  refine (IR.out _).mono ?_; rintro e w4 ⟨rfl, hb⟩; have hz := hb.size; try simp only [World.size_alloc, World.heap_drewN, World.size_setCell] at hz
  have HB4 := Lib.hid (show Below w.heap.size w w4 from by have := HB3.out; exact (by with_reducible repeat (first | exact Below.refl _ _ | apply kalloc | apply kept_drewN | (refine kset ?_ (by first | (simp; done) | (simp; omega)) _) | assumption | (refine bthru (by assumption) ?_))))
  have z_rz : (w.heap.size) < w4.heap.size := (by omega); have rz : w4.rangeAt (w.heap.size) 0 [.int .i64 n, .string a, .string b, .int .i64 k0, .int .i64 i0, .int .i64 k1, .int .i64 i1, .int .i64 p, .int .i64 i] := (by with_reducible repeat (first | exact range_new_at _ _ _ (by first | omega | (simp; done) | (simp; omega)) | apply range_put | (with_unfolding_all rfl) | (refine range_alloc ?_ (by first | omega | (simp; done) | (simp; omega)) _) | (refine range_drewN ?_ _) | (refine range_far ?_ (by first | omega | (simp; done) | (simp; omega)) _) | assumption | (refine range_below ?_ (by assumption) (by first | omega | (simp; done) | (simp; omega)))))
  have z_ra : (w1.heap.size) < w4.heap.size := (by omega); have ra : w4.rangeAt (w1.heap.size) 0 [.int .i64 x0, .int .i64 x1, .int .i64 x2, .int .i64 x3] := (by with_reducible repeat (first | exact range_new_at _ _ _ (by first | omega | (simp; done) | (simp; omega)) | apply range_put | (with_unfolding_all rfl) | (refine range_alloc ?_ (by first | omega | (simp; done) | (simp; omega)) _) | (refine range_drewN ?_ _) | (refine range_far ?_ (by first | omega | (simp; done) | (simp; omega)) _) | assumption | (refine range_below ?_ (by assumption) (by first | omega | (simp; done) | (simp; omega)))))
  have z_rb : (w2.heap.size) < w4.heap.size := (by omega); have rb : w4.rangeAt (w2.heap.size) 0 [.int .i64 x0, .int .i64 x1, .int .i64 x2, .int .i64 x3] := (by with_reducible repeat (first | exact range_new_at _ _ _ (by first | omega | (simp; done) | (simp; omega)) | apply range_put | (with_unfolding_all rfl) | (refine range_alloc ?_ (by first | omega | (simp; done) | (simp; omega)) _) | (refine range_drewN ?_ _) | (refine range_far ?_ (by first | omega | (simp; done) | (simp; omega)) _) | assumption | (refine range_below ?_ (by assumption) (by first | omega | (simp; done) | (simp; omega)))))
  clear hb
  have rz_0 := range_cell rz 0 rfl; have rz_1 := range_cell rz 1 rfl; have rz_2 := range_cell rz 2 rfl; have rz_3 := range_cell rz 3 rfl; have rz_4 := range_cell rz 4 rfl; have rz_5 := range_cell rz 5 rfl; have rz_6 := range_cell rz 6 rfl; have rz_7 := range_cell rz 7 rfl; have rz_8 := range_cell rz 8 rfl
  go_wp2_with fail
  refine (ON.out _).mono ?_; rintro e w5 ⟨rfl, hb⟩; have hz := hb.size; try simp only [World.size_alloc, World.heap_drewN, World.size_setCell] at hz
  have HB5 := Lib.hid (show Below w.heap.size w w5 from by have := HB4.out; exact (by with_reducible repeat (first | exact Below.refl _ _ | apply kalloc | apply kept_drewN | (refine kset ?_ (by first | (simp; done) | (simp; omega)) _) | assumption | (refine bthru (by assumption) ?_))))
  have z_rz : (w.heap.size) < w5.heap.size := (by omega); have rz : w5.rangeAt (w.heap.size) 0 [.int .i64 n, .string a, .string b, .int .i64 k0, .int .i64 i0, .int .i64 k1, .int .i64 i1, .int .i64 p, .int .i64 i] := (by with_reducible repeat (first | exact range_new_at _ _ _ (by first | omega | (simp; done) | (simp; omega)) | apply range_put | (with_unfolding_all rfl) | (refine range_alloc ?_ (by first | omega | (simp; done) | (simp; omega)) _) | (refine range_drewN ?_ _) | (refine range_far ?_ (by first | omega | (simp; done) | (simp; omega)) _) | assumption | (refine range_below ?_ (by assumption) (by first | omega | (simp; done) | (simp; omega)))))
  have z_ra : (w1.heap.size) < w5.heap.size := (by omega); have ra : w5.rangeAt (w1.heap.size) 0 [.int .i64 x0, .int .i64 x1, .int .i64 x2, .int .i64 x3] := (by with_reducible repeat (first | exact range_new_at _ _ _ (by first | omega | (simp; done) | (simp; omega)) | apply range_put | (with_unfolding_all rfl) | (refine range_alloc ?_ (by first | omega | (simp; done) | (simp; omega)) _) | (refine range_drewN ?_ _) | (refine range_far ?_ (by first | omega | (simp; done) | (simp; omega)) _) | assumption | (refine range_below ?_ (by assumption) (by first | omega | (simp; done) | (simp; omega)))))
  have z_rb : (w2.heap.size) < w5.heap.size := (by omega); have rb : w5.rangeAt (w2.heap.size) 0 [.int .i64 x0, .int .i64 x1, .int .i64 x2, .int .i64 x3] := (by with_reducible repeat (first | exact range_new_at _ _ _ (by first | omega | (simp; done) | (simp; omega)) | apply range_put | (with_unfolding_all rfl) | (refine range_alloc ?_ (by first | omega | (simp; done) | (simp; omega)) _) | (refine range_drewN ?_ _) | (refine range_far ?_ (by first | omega | (simp; done) | (simp; omega)) _) | assumption | (refine range_below ?_ (by assumption) (by first | omega | (simp; done) | (simp; omega)))))
  clear hb
  have rz_0 := range_cell rz 0 rfl; have rz_1 := range_cell rz 1 rfl; have rz_2 := range_cell rz 2 rfl; have rz_3 := range_cell rz 3 rfl; have rz_4 := range_cell rz 4 rfl; have rz_5 := range_cell rz 5 rfl; have rz_6 := range_cell rz 6 rfl; have rz_7 := range_cell rz 7 rfl; have rz_8 := range_cell rz 8 rfl
  go_wp2_with fail
  refine (OR.out _).mono ?_; rintro e w6 ⟨rfl, hb⟩; have hz := hb.size; try simp only [World.size_alloc, World.heap_drewN, World.size_setCell] at hz
  have HB6 := Lib.hid (show Below w.heap.size w w6 from by have := HB5.out; exact (by with_reducible repeat (first | exact Below.refl _ _ | apply kalloc | apply kept_drewN | (refine kset ?_ (by first | (simp; done) | (simp; omega)) _) | assumption | (refine bthru (by assumption) ?_))))
  have z_rz : (w.heap.size) < w6.heap.size := (by omega); have rz : w6.rangeAt (w.heap.size) 0 [.int .i64 n, .string a, .string b, .int .i64 k0, .int .i64 i0, .int .i64 k1, .int .i64 i1, .int .i64 p, .int .i64 i] := (by with_reducible repeat (first | exact range_new_at _ _ _ (by first | omega | (simp; done) | (simp; omega)) | apply range_put | (with_unfolding_all rfl) | (refine range_alloc ?_ (by first | omega | (simp; done) | (simp; omega)) _) | (refine range_drewN ?_ _) | (refine range_far ?_ (by first | omega | (simp; done) | (simp; omega)) _) | assumption | (refine range_below ?_ (by assumption) (by first | omega | (simp; done) | (simp; omega)))))
  have z_ra : (w1.heap.size) < w6.heap.size := (by omega); have ra : w6.rangeAt (w1.heap.size) 0 [.int .i64 x0, .int .i64 x1, .int .i64 x2, .int .i64 x3] := (by with_reducible repeat (first | exact range_new_at _ _ _ (by first | omega | (simp; done) | (simp; omega)) | apply range_put | (with_unfolding_all rfl) | (refine range_alloc ?_ (by first | omega | (simp; done) | (simp; omega)) _) | (refine range_drewN ?_ _) | (refine range_far ?_ (by first | omega | (simp; done) | (simp; omega)) _) | assumption | (refine range_below ?_ (by assumption) (by first | omega | (simp; done) | (simp; omega)))))
  have z_rb : (w2.heap.size) < w6.heap.size := (by omega); have rb : w6.rangeAt (w2.heap.size) 0 [.int .i64 x0, .int .i64 x1, .int .i64 x2, .int .i64 x3] := (by with_reducible repeat (first | exact range_new_at _ _ _ (by first | omega | (simp; done) | (simp; omega)) | apply range_put | (with_unfolding_all rfl) | (refine range_alloc ?_ (by first | omega | (simp; done) | (simp; omega)) _) | (refine range_drewN ?_ _) | (refine range_far ?_ (by first | omega | (simp; done) | (simp; omega)) _) | assumption | (refine range_below ?_ (by assumption) (by first | omega | (simp; done) | (simp; omega)))))
  clear hb
  have rz_0 := range_cell rz 0 rfl; have rz_1 := range_cell rz 1 rfl; have rz_2 := range_cell rz 2 rfl; have rz_3 := range_cell rz 3 rfl; have rz_4 := range_cell rz 4 rfl; have rz_5 := range_cell rz 5 rfl; have rz_6 := range_cell rz 6 rfl; have rz_7 := range_cell rz 7 rfl; have rz_8 := range_cell rz 8 rfl
  go_wp2_with fail
  refine region_below (by kernel_rfl) (by kernel_rfl) ?_; intro wR HW
  have HBR := Lib.hid (show Below w.heap.size w wR from by have := HB6.out; rw [← HW.out]; exact (by with_reducible repeat (first | exact Below.refl _ _ | apply kalloc | apply kept_drewN | (refine kset ?_ (by first | (simp; done) | (simp; omega)) _) | assumption | (refine bthru (by assumption) ?_))))
  have sz : wR.rangeAt (w.heap.size) 0 [.int .i64 n, .string a, .string b, .int .i64 k0, .int .i64 i0, .int .i64 k1, .int .i64 i1, .int .i64 p, .int .i64 i] := by rw [← HW.out]; exact (by with_reducible repeat (first | exact range_new_at _ _ _ (by first | omega | (simp; done) | (simp; omega)) | apply range_put | (with_unfolding_all rfl) | (refine range_alloc ?_ (by first | omega | (simp; done) | (simp; omega)) _) | (refine range_drewN ?_ _) | (refine range_far ?_ (by first | omega | (simp; done) | (simp; omega)) _) | assumption | (refine range_below ?_ (by assumption) (by first | omega | (simp; done) | (simp; omega)))))
  have sa : wR.rangeAt (w1.heap.size) 0 [.int .i64 x0, .int .i64 x1, .int .i64 x2, .int .i64 x3] := by rw [← HW.out]; exact (by with_reducible repeat (first | exact range_new_at _ _ _ (by first | omega | (simp; done) | (simp; omega)) | apply range_put | (with_unfolding_all rfl) | (refine range_alloc ?_ (by first | omega | (simp; done) | (simp; omega)) _) | (refine range_drewN ?_ _) | (refine range_far ?_ (by first | omega | (simp; done) | (simp; omega)) _) | assumption | (refine range_below ?_ (by assumption) (by first | omega | (simp; done) | (simp; omega)))))
  have sb : wR.rangeAt (w2.heap.size) 0 [.int .i64 x0, .int .i64 x1, .int .i64 x2, .int .i64 x3] := by rw [← HW.out]; exact (by with_reducible repeat (first | exact range_new_at _ _ _ (by first | omega | (simp; done) | (simp; omega)) | apply range_put | (with_unfolding_all rfl) | (refine range_alloc ?_ (by first | omega | (simp; done) | (simp; omega)) _) | (refine range_drewN ?_ _) | (refine range_far ?_ (by first | omega | (simp; done) | (simp; omega)) _) | assumption | (refine range_below ?_ (by assumption) (by first | omega | (simp; done) | (simp; omega)))))
  clear rz ra rb
  have sz_0 := cell_regrown (range_cell sz 0 rfl); have sz_1 := cell_regrown (range_cell sz 1 rfl); have sz_2 := cell_regrown (range_cell sz 2 rfl); have sz_3 := cell_regrown (range_cell sz 3 rfl); have sz_4 := cell_regrown (range_cell sz 4 rfl); have sz_5 := cell_regrown (range_cell sz 5 rfl); have sz_6 := cell_regrown (range_cell sz 6 rfl); have sz_7 := cell_regrown (range_cell sz 7 rfl); have sz_8 := cell_regrown (range_cell sz 8 rfl)
  have sa_0 := cell_regrown (range_cell sa 0 rfl); have sa_1 := cell_regrown (range_cell sa 1 rfl); have sa_2 := cell_regrown (range_cell sa 2 rfl); have sa_3 := cell_regrown (range_cell sa 3 rfl)
  have sb_0 := cell_regrown (range_cell sb 0 rfl); have sb_1 := cell_regrown (range_cell sb 1 rfl); have sb_2 := cell_regrown (range_cell sb 2 rfl); have sb_3 := cell_regrown (range_cell sb 3 rfl)
  clear sz sa sb
  (repeat (quiet_step (first | with_reducible exact Calls.regrown_of (awake7_any _) | with_reducible exact Calls.regrown_of (WN.out _) | with_reducible exact Calls.regrown_of (WR.out _) | with_reducible exact Calls.regrown_of (MN.out _) | with_reducible exact Calls.regrown_of (MR.out _)))); refine wpQuiet_nil ?_; intro w2 hb2
  go_wp2
  go_ret
  exact ⟨rfl, HBR.out.trans (hb2.mono HBR.out.size)⟩
theorem hearTells_walk (n : Int) (hn : -9223372036854775808 ≤ n ∧ n ≤ 9223372036854775807) (a : ByteArray) (ha : a.size ≤ maxLen) (b : ByteArray) (hb : b.size ≤ maxLen) (k0 : Int) (hk0 : -9223372036854775808 ≤ k0 ∧ k0 ≤ 9223372036854775807) (i0 : Int) (hi0 : -9223372036854775808 ≤ i0 ∧ i0 ≤ 9223372036854775807) (k1 : Int) (hk1 : -9223372036854775808 ≤ k1 ∧ k1 ≤ 9223372036854775807) (i1 : Int) (hi1 : -9223372036854775808 ≤ i1 ∧ i1 ≤ 9223372036854775807) (p : Int) (hp : -9223372036854775808 ≤ p ∧ p ≤ 9223372036854775807) (i : Int) (hi : -9223372036854775808 ≤ i ∧ i ≤ 9223372036854775807) (w : World) :
    Calls Try.prog 3 #[.agg #[.int .i64 n, .string a, .string b, .int .i64 k0, .int .i64 i0, .int .i64 k1, .int .i64 i1, .int .i64 p, .int .i64 i]] w fun e w' => e = .returned (.bool true) ∧ Below w.heap.size w w' := by
  cases h1 : decide ((100 : Int) < a.size)
  · cases h2 : decide ((100 : Int) < b.size)
    · exact hearTells_small n a ha b hb k0 i0 k1 i1 p i h1 h2 w
    · exact hearTells_big2 n a b k0 i0 k1 i1 p i h1 h2 w
  · exact hearTells_big1 n a b k0 i0 k1 i1 p i h1 w
end Go.Proofs.Ytdklobpembmbbaa
