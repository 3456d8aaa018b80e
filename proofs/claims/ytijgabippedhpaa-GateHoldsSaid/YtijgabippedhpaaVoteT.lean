
import Derived.Test.YtijgabippedhpaaRows
import Derived.Test.YtijgabippedhpaaVoteS
namespace Go.Proofs.Ytijgabippedhpaa
set_option linter.unusedVariables false
set_option linter.unusedSimpArgs false
open Go.ChangeShapes Go.WideShapes Go.RowKit

theorem clamp_id {c m : Int} (h : 0 ≤ c ∧ c ≤ m) : Tally.clamp c 0 m = c := by
  unfold Tally.clamp
  rw [if_neg (by omega)]
  split <;> omega
theorem clean_id {n : Int} {f : Nat → Int} (h : Vote.Ok n f) (j : Nat) (hj : j < 12) : Vote.clean n f j = f j := by
  obtain ⟨h38, hA, h8, h9, h10, h11⟩ := h
  unfold Vote.clean
  rw [if_pos (Conf.right_spec.2 h38)]
  by_cases e : j < 8
  · rw [if_pos e, clamp_id (hA j e)]
  · rw [if_neg e]
    have h4 : j = 8 ∨ j = 9 ∨ j = 10 ∨ j = 11 := by omega
    rcases h4 with rfl | rfl | rfl | rfl
    · exact Int.emod_eq_of_lt (by omega) (by omega)
    · exact clamp_id h9
    · exact clamp_id h10
    · exact Int.emod_eq_of_lt (by omega) (by omega)
theorem ok_like {n : Int} {f g : Nat → Int} (h : Vote.Ok n g) (e : ∀ j, j < 12 → g j = f j) : Vote.Ok n f := by
  obtain ⟨h38, hA, h8, h9, h10, h11⟩ := h
  rw [e 8 (by decide)] at h8
  rw [e 9 (by decide)] at h9
  rw [e 10 (by decide)] at h10
  rw [e 11 (by decide)] at h11
  exact ⟨h38, fun j hj => by rw [← e j (by omega)]; exact hA j hj, h8, h9, h10, h11⟩
/-- Two hubs, compared. -/
def eq12 (f g : Nat → Int) : Bool := eq8 f g && (f 8 == g 8 && (f 9 == g 9 && (f 10 == g 10 && f 11 == g 11)))
theorem eq12_iff {f g : Nat → Int} : eq12 f g = true ↔ ∀ j, j < 12 → f j = g j := by
  unfold eq12 eq8
  simp only [Bool.and_eq_true, beq_iff_eq]
  constructor
  · rintro ⟨⟨e0, e1, e2, e3, e4, e5, e6, e7⟩, e8, e9, e10, e11⟩ j hj
    rcases twelve hj with rfl | rfl | rfl | rfl | rfl | rfl | rfl | rfl | rfl | rfl | rfl | rfl <;> assumption
  · intro h
    exact ⟨⟨h 0 (by decide), h 1 (by decide), h 2 (by decide), h 3 (by decide), h 4 (by decide), h 5 (by decide), h 6 (by decide), h 7 (by decide)⟩, h 8 (by decide), h 9 (by decide), h 10 (by decide), h 11 (by decide)⟩
theorem ok_eq12 {n : Int} {f : Nat → Int} (h : Conf.right n = true) : Vote.ok n f = eq12 (Vote.clean n f) f := by
  rw [Bool.eq_iff_iff, Vote.ok_iff, eq12_iff]
  exact ⟨fun q j hj => clean_id q j hj, fun q => ok_like (Vote.ok_clean f h) q⟩
set_option maxHeartbeats 4000000 in
theorem vRight_any (n : Int) (f : Nat → Int) (w : World) (hf : Bd12 f) :
    Calls Try.prog 23 #[.int .i64 n, .agg #[.int .i64 (f 0), .int .i64 (f 1), .int .i64 (f 2), .int .i64 (f 3), .int .i64 (f 4), .int .i64 (f 5), .int .i64 (f 6), .int .i64 (f 7), .int .i64 (f 8), .int .i64 (f 9), .int .i64 (f 10), .int .i64 (f 11)]] w fun e w' => e = .returned (.bool (Vote.ok n f)) ∧ Below w.heap.size w w' := by
  have CC := Lib.hid (fun w => vClean_any n f w hf)
  by_cases h : Conf.right n = true
  · rw [ok_eq12 h]
    rw [Vote.err_yes h] at CC
    generalize Vote.clean n f = g at *
    have HE := Lib.hid (show eq12 g f = (eq8 g f && (g 8 == f 8 && (g 9 == f 9 && (g 10 == f 10 && g 11 == f 11)))) from rfl)
    have HQ := hub_eq g f
    generalize eq8 g f = b8 at *
    generalize eq12 g f = r at *
    clear h hf
    go_enter Try.func23, Try.ntmps23
    go_upto_region 1 with fail
    have HI := Lib.hid (Ints.box w f 24)
    have HB := Lib.hid (show Below w.heap.size w (w.alloc (.cells #[.int .i64 (f 0), .int .i64 (f 1), .int .i64 (f 2), .int .i64 (f 3), .int .i64 (f 4), .int .i64 (f 5), .int .i64 (f 6), .int .i64 (f 7), .int .i64 (f 8), .int .i64 (f 9), .int .i64 (f 10), .int .i64 (f 11)] 24)) from bel)
    generalize hwa : World.alloc w _ = wa at *
    have hz0 : w.heap.size < wa.heap.size := HI.out.1
    clear hwa
    have HI_c0 := (HI.out.2 0 (by decide)).1; have HI_c1 := (HI.out.2 1 (by decide)).1; have HI_c2 := (HI.out.2 2 (by decide)).1; have HI_c3 := (HI.out.2 3 (by decide)).1; have HI_c4 := (HI.out.2 4 (by decide)).1; have HI_c5 := (HI.out.2 5 (by decide)).1; have HI_c6 := (HI.out.2 6 (by decide)).1; have HI_c7 := (HI.out.2 7 (by decide)).1; have HI_c8 := (HI.out.2 8 (by decide)).1; have HI_c9 := (HI.out.2 9 (by decide)).1; have HI_c10 := (HI.out.2 10 (by decide)).1; have HI_c11 := (HI.out.2 11 (by decide)).1; have HI_z := HI.out.1
    go_wp2_with fail
    refine (CC.out _).mono ?_; rintro e w1 ⟨rfl, hb⟩; have hz := hb.size; (try simp only [World.size_alloc, World.heap_drewN, World.size_drew, World.size_setCell] at hz)
    have HB1 := Lib.hid (show Below w.heap.size w w1 from by have := HB.out; exact bel)
    have HI1 := Lib.hid (HI.out.below hb)
    clear hb HI HB
    clear HI_c0 HI_c1 HI_c2 HI_c3 HI_c4 HI_c5 HI_c6 HI_c7 HI_c8 HI_c9 HI_c10 HI_c11 HI_z
    go_upto_region 2 with fail
    have HB2 := Lib.hid (show Below w.heap.size w (w1.alloc (.cells #[.int .i64 (g 0), .int .i64 (g 1), .int .i64 (g 2), .int .i64 (g 3), .int .i64 (g 4), .int .i64 (g 5), .int .i64 (g 6), .int .i64 (g 7), .int .i64 (g 8), .int .i64 (g 9), .int .i64 (g 10), .int .i64 (g 11)] 24)) from by have := HB1.out; exact bel)
    have HG := Lib.hid (Ints.box w1 g 24)
    have HI2 := Lib.hid (HI1.out.alloc (.cells #[.int .i64 (g 0), .int .i64 (g 1), .int .i64 (g 2), .int .i64 (g 3), .int .i64 (g 4), .int .i64 (g 5), .int .i64 (g 6), .int .i64 (g 7), .int .i64 (g 8), .int .i64 (g 9), .int .i64 (g 10), .int .i64 (g 11)] 24))
    generalize World.alloc w1 _ = w2 at *
    clear HI1 HB1
    have HI2_c0 := (HI2.out.2 0 (by decide)).1; have HI2_c1 := (HI2.out.2 1 (by decide)).1; have HI2_c2 := (HI2.out.2 2 (by decide)).1; have HI2_c3 := (HI2.out.2 3 (by decide)).1; have HI2_c4 := (HI2.out.2 4 (by decide)).1; have HI2_c5 := (HI2.out.2 5 (by decide)).1; have HI2_c6 := (HI2.out.2 6 (by decide)).1; have HI2_c7 := (HI2.out.2 7 (by decide)).1; have HI2_c8 := (HI2.out.2 8 (by decide)).1; have HI2_c9 := (HI2.out.2 9 (by decide)).1; have HI2_c10 := (HI2.out.2 10 (by decide)).1; have HI2_c11 := (HI2.out.2 11 (by decide)).1; have HI2_z := HI2.out.1
    have HG_c0 := (HG.out.2 0 (by decide)).1; have HG_c1 := (HG.out.2 1 (by decide)).1; have HG_c2 := (HG.out.2 2 (by decide)).1; have HG_c3 := (HG.out.2 3 (by decide)).1; have HG_c4 := (HG.out.2 4 (by decide)).1; have HG_c5 := (HG.out.2 5 (by decide)).1; have HG_c6 := (HG.out.2 6 (by decide)).1; have HG_c7 := (HG.out.2 7 (by decide)).1; have HG_c8 := (HG.out.2 8 (by decide)).1; have HG_c9 := (HG.out.2 9 (by decide)).1; have HG_c10 := (HG.out.2 10 (by decide)).1; have HG_c11 := (HG.out.2 11 (by decide)).1; have HG_z := HG.out.1
    have := HB2.out
    go_wp2
    all_goals
      go_ret
      refine ⟨ret_bool ?_, bel⟩
      clear HI2_c0 HI2_c1 HI2_c2 HI2_c3 HI2_c4 HI2_c5 HI2_c6 HI2_c7 HI2_c8 HI2_c9 HI2_c10 HI2_c11 HI2_z
      clear HG_c0 HG_c1 HG_c2 HG_c3 HG_c4 HG_c5 HG_c6 HG_c7 HG_c8 HG_c9 HG_c10 HG_c11 HG_z
      clear HB2 HI2 HG this CC HQ
      rw [HE.out]
      clear HE
      simp [*]
  · have h := Bool.eq_false_iff.2 h
    have HN : Hid (Vote.ok n f = false) := Vote.ok_no (fun q => by have := Conf.right_spec.2 q.1; rw [h] at this; cases this)
    rw [Vote.err_no h] at CC
    simp only [clean_no h] at CC
    go_enter Try.func23, Try.ntmps23
    go_wp2_with fail
    refine (CC.out _).mono ?_; rintro e w1 ⟨rfl, hb⟩; have hz := hb.size; (try simp only [World.size_alloc, World.heap_drewN, World.size_drew, World.size_setCell] at hz)
    go_wp2
    go_ret
    exact ⟨by rw [HN.out]; rfl, bel⟩
end Go.Proofs.Ytijgabippedhpaa
