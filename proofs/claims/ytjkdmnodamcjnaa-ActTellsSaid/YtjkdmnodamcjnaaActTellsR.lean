/-
  What becomes of any node, by any frames that are heard, and in any ticks in which nothing is, is the document's.
-/
import Derived.Test.YtjkdmnodamcjnaaActI
import Derived.Test.YtjkdmnodamcjnaaFlat
import Derived.Test.YtjkdmnodamcjnaaKit
namespace Go.Proofs.Ytjkdmnodamcjnaa
open Go.ChangeShapes Go.WideShapes Go.RowKit
open Go.ChangeMaps (open_string)
set_option linter.unusedVariables false
set_option linter.unusedSimpArgs false

theorem actTells_arr10 {α : Type} {cs : Array α} (h : cs.size = 10) : ∃ c0 c1 c2 c3 c4 c5 c6 c7 c8 c9, cs = #[c0, c1, c2, c3, c4, c5, c6, c7, c8, c9] := by
  obtain ⟨l⟩ := cs
  match l, h with
  | [c0, c1, c2, c3, c4, c5, c6, c7, c8, c9], _ => exact ⟨c0, c1, c2, c3, c4, c5, c6, c7, c8, c9, rfl⟩

theorem actTells_own : ownKnob Try.prog.godebug = none := by kernel_rfl
theorem actTells_laid : laidOutB Try.prog = true := by kernel_rfl
theorem actTells_kinds : ∀ t ∈ Try.f3.params.toList, Try.prog.readableRec t = true ∧ t < Try.prog.types.size := by
  rw [Try.params3]
  intro t ht
  simp only [List.mem_cons, List.not_mem_nil, or_false] at ht
  subst ht
  exact ⟨by kernel_rfl, of_decide_eq_true (by kernel_rfl)⟩

set_option maxRecDepth 100000 in
theorem actTells_lifted (os : Os) (started : os.Started) (H : Type) (enc : TypeId × Value → H) :
    ReturnsInHanded {} Try.checked os 3 .any (Rows.actTellsSpec.pre6 enc Try.prog Try.f3 Rows.actTellsRow.domain false) (Rows.actTellsSpec.post enc Try.prog Try.f3 false true false false) := by
  refine returnsInHanded_of_change (C := Try.checked) actTells_own started (by kernel_rfl) Try.func3
    (ChangeSpec.witness6 (enc := enc) (C := Try.checked) false ⟨#[], #[.agg #[.int .i64 0, .int .i64 0, .int .i64 0, .int .i64 0, .int .i64 0, .int .i64 0, .int .i64 0, .int .i64 0, .int .i64 0, .int .i64 0]], []⟩ 8 (by kernel_rfl) (by kernel_rfl) (by kernel_rfl) (by kernel_rfl)) ?_
  intro W base args ds gs before hval0 hW hcnd _
  have hval : ∀ (j : Nat) t v, Try.f3.params[j]? = some t → args[j]? = some v → Value.okWide Try.prog W .any base t v := hval0
  have hW' := hW
  obtain ⟨p, q, hA0, hV, rfl, hfz, hnd⟩ := hW
  have hA : DataW.TrodAll enc Try.prog W 0 (fun _ => true) true Try.f3.params.toList args.toList ds p := hA0
  rw [Try.params3] at hA hval
  obtain ⟨v0, vs0, d0, ds0, p0, q0, hargs, rfl, rfl, h0, r0⟩ := trodAll_cons hA
  obtain ⟨rfl, rfl, rfl⟩ := trodAll_nil r0
  obtain rfl : args = #[v0] := by cases args; simp_all
  obtain ⟨rfl, rfl⟩ := trodVars_none hV
  obtain ⟨cs0, rfl, hz0⟩ := okWide_struct Try.underlying28 (hval 0 28 v0 rfl rfl)
  obtain ⟨c0_0, c0_1, c0_2, c0_3, c0_4, c0_5, c0_6, c0_7, c0_8, c0_9, rfl⟩ := actTells_arr10 (hz0.trans (by kernel_rfl))
  obtain ⟨a0_0, rfl, w0_0⟩ := leaf_int 9 h0 (i := 0) (by kernel_rfl) Try.underlying3 rfl
  have b0_0 := bounds_i64 w0_0
  obtain ⟨a0_1, rfl, w0_1⟩ := leaf_int 9 h0 (i := 1) (by kernel_rfl) Try.underlying3 rfl
  have b0_1 := bounds_i64 w0_1
  obtain ⟨a0_2, rfl, w0_2⟩ := leaf_int 9 h0 (i := 2) (by kernel_rfl) Try.underlying3 rfl
  have b0_2 := bounds_i64 w0_2
  obtain ⟨a0_3, rfl, w0_3⟩ := leaf_int 9 h0 (i := 3) (by kernel_rfl) Try.underlying3 rfl
  have b0_3 := bounds_i64 w0_3
  obtain ⟨a0_4, rfl, w0_4⟩ := leaf_int 9 h0 (i := 4) (by kernel_rfl) Try.underlying3 rfl
  have b0_4 := bounds_i64 w0_4
  obtain ⟨a0_5, rfl, w0_5⟩ := leaf_int 9 h0 (i := 5) (by kernel_rfl) Try.underlying3 rfl
  have b0_5 := bounds_i64 w0_5
  obtain ⟨a0_6, rfl, w0_6⟩ := leaf_int 9 h0 (i := 6) (by kernel_rfl) Try.underlying3 rfl
  have b0_6 := bounds_i64 w0_6
  obtain ⟨a0_7, rfl, w0_7⟩ := leaf_int 9 h0 (i := 7) (by kernel_rfl) Try.underlying3 rfl
  have b0_7 := bounds_i64 w0_7
  obtain ⟨a0_8, rfl, w0_8⟩ := leaf_int 9 h0 (i := 8) (by kernel_rfl) Try.underlying3 rfl
  have b0_8 := bounds_i64 w0_8
  obtain ⟨a0_9, rfl, w0_9⟩ := leaf_int 9 h0 (i := 9) (by kernel_rfl) Try.underlying3 rfl
  have b0_9 := bounds_i64 w0_9
  refine (actTells_walk a0_0 b0_0 a0_1 b0_1 a0_2 b0_2 a0_3 b0_3 a0_4 b0_4 a0_5 b0_5 a0_6 b0_6 a0_7 b0_7 a0_8 b0_8 a0_9 b0_9 W).mono fun e W' ⟨he, hb⟩ => ?_
  subst he
  exact ⟨_, rfl, law_end actTells_laid actTells_kinds hW' rfl (by kernel_rfl) Try.underlying4 rfl rfl rfl hb⟩

/-- The statement. -/
theorem actTells_holds : Rows.ActTellsSaid :=
  OpenClaim.holds_of_wide 3 Try.f3 rfl rfl rfl rfl rfl rfl rfl ⟨rfl, rfl, rfl, rfl, rfl⟩ rfl rfl rfl rfl rfl (by kernel_rfl) Try.func3 (by kernel_rfl)
    (of_decide_eq_true (by kernel_rfl)) (by unfold Func.isWrapper; first | (rw [if_pos (by decide +kernel)]; kernel_rfl) | (rw [if_neg (by decide +kernel)]; exact ⟨rfl, rfl⟩))
    (fun os started H enc _ => actTells_lifted os started H enc)
end Go.Proofs.Ytjkdmnodamcjnaa
