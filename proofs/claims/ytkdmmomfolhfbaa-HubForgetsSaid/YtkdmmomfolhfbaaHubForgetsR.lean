/-
  Four rounds and a tick in which nothing is taken in make any hub hold nothing, and relay the next Cs. Without the document's answer.
-/
import Derived.Test.YtkdmmomfolhfbaaHubM
import Derived.Test.YtkdmmomfolhfbaaMem
namespace Go.Proofs.Ytkdmmomfolhfbaa
open Go.ChangeShapes Go.WideShapes Go.RowKit
open Go.ChangeMaps (open_string)
set_option linter.unusedVariables false
set_option linter.unusedSimpArgs false

theorem hubForgets_arr12 {α : Type} {cs : Array α} (h : cs.size = 12) : ∃ c0 c1 c2 c3 c4 c5 c6 c7 c8 c9 c10 c11, cs = #[c0, c1, c2, c3, c4, c5, c6, c7, c8, c9, c10, c11] := by
  obtain ⟨l⟩ := cs
  match l, h with
  | [c0, c1, c2, c3, c4, c5, c6, c7, c8, c9, c10, c11], _ => exact ⟨c0, c1, c2, c3, c4, c5, c6, c7, c8, c9, c10, c11, rfl⟩

theorem hubForgets_own : ownKnob Try.prog.godebug = none := by kernel_rfl
theorem hubForgets_laid : laidOutB Try.prog = true := by kernel_rfl
theorem hubForgets_kinds : ∀ t ∈ Try.f6.params.toList, Try.prog.readableRec t = true ∧ t < Try.prog.types.size := by
  rw [Try.params6]
  intro t ht
  simp only [List.mem_cons, List.not_mem_nil, or_false] at ht
  rcases ht with rfl | rfl | rfl <;> exact ⟨by kernel_rfl, of_decide_eq_true (by kernel_rfl)⟩

set_option maxRecDepth 100000 in
theorem hubForgets_lifted (os : Os) (started : os.Started) (H : Type) (enc : TypeId × Value → H) :
    ReturnsInHanded {} Try.checked os 6 .any (Rows.hubForgetsSpec.pre6 enc Try.prog Try.f6 Rows.hubForgetsRow.domain false) (Rows.hubForgetsSpec.post enc Try.prog Try.f6 false true false false) := by
  refine returnsInHanded_of_change (C := Try.checked) hubForgets_own started (by kernel_rfl) Try.func6
    (ChangeSpec.witness6 (enc := enc) (C := Try.checked) false ⟨#[], #[.int .u8 0, .agg #[.int .i64 0, .int .i64 0, .int .i64 0, .int .i64 0, .int .i64 0, .int .i64 0, .int .i64 0, .int .i64 0, .int .i64 0, .int .i64 0, .int .i64 0, .int .i64 0], .int .u8 0], []⟩ 8 (by kernel_rfl) (by kernel_rfl) (by kernel_rfl) (by kernel_rfl)) ?_
  intro W base args ds gs before hval0 hW hcnd _
  have hval : ∀ (j : Nat) t v, Try.f6.params[j]? = some t → args[j]? = some v → Value.okWide Try.prog W .any base t v := hval0
  have hW' := hW
  obtain ⟨p, q, hA0, hV, rfl, hfz, hnd⟩ := hW
  have hA : DataW.TrodAll enc Try.prog W 0 (fun _ => true) true Try.f6.params.toList args.toList ds p := hA0
  rw [Try.params6] at hA hval
  obtain ⟨v0, vs0, d0, ds0, p0, q0, hargs, rfl, rfl, h0, r0⟩ := trodAll_cons hA
  obtain ⟨v1, vs1, d1, ds1, p1, q1, rfl, rfl, rfl, h1, r1⟩ := trodAll_cons r0
  obtain ⟨v2, vs2, d2, ds2, p2, q2, rfl, rfl, rfl, h2, r2⟩ := trodAll_cons r1
  obtain ⟨rfl, rfl, rfl⟩ := trodAll_nil r2
  obtain rfl : args = #[v0, v1, v2] := by cases args; simp_all
  obtain ⟨rfl, rfl⟩ := trodVars_none hV
  obtain ⟨a0, rfl, rfl, rfl, w0⟩ := open_int Try.underlying5 (hval 0 5 v0 rfl rfl) h0
  have b0 := bounds_u8 w0
  obtain ⟨n0, rfl⟩ := Int.eq_ofNat_of_zero_le b0.1
  obtain ⟨cs1, rfl, hz1⟩ := okWide_struct Try.underlying24 (hval 1 24 v1 rfl rfl)
  obtain ⟨c1_0, c1_1, c1_2, c1_3, c1_4, c1_5, c1_6, c1_7, c1_8, c1_9, c1_10, c1_11, rfl⟩ := hubForgets_arr12 (hz1.trans (by kernel_rfl))
  obtain ⟨a1_0, rfl, w1_0⟩ := leaf_int 9 h1 (i := 0) (by kernel_rfl) Try.underlying3 rfl
  have b1_0 := bounds_i64 w1_0
  obtain ⟨a1_1, rfl, w1_1⟩ := leaf_int 9 h1 (i := 1) (by kernel_rfl) Try.underlying3 rfl
  have b1_1 := bounds_i64 w1_1
  obtain ⟨a1_2, rfl, w1_2⟩ := leaf_int 9 h1 (i := 2) (by kernel_rfl) Try.underlying3 rfl
  have b1_2 := bounds_i64 w1_2
  obtain ⟨a1_3, rfl, w1_3⟩ := leaf_int 9 h1 (i := 3) (by kernel_rfl) Try.underlying3 rfl
  have b1_3 := bounds_i64 w1_3
  obtain ⟨a1_4, rfl, w1_4⟩ := leaf_int 9 h1 (i := 4) (by kernel_rfl) Try.underlying3 rfl
  have b1_4 := bounds_i64 w1_4
  obtain ⟨a1_5, rfl, w1_5⟩ := leaf_int 9 h1 (i := 5) (by kernel_rfl) Try.underlying3 rfl
  have b1_5 := bounds_i64 w1_5
  obtain ⟨a1_6, rfl, w1_6⟩ := leaf_int 9 h1 (i := 6) (by kernel_rfl) Try.underlying3 rfl
  have b1_6 := bounds_i64 w1_6
  obtain ⟨a1_7, rfl, w1_7⟩ := leaf_int 9 h1 (i := 7) (by kernel_rfl) Try.underlying3 rfl
  have b1_7 := bounds_i64 w1_7
  obtain ⟨a1_8, rfl, w1_8⟩ := leaf_int 9 h1 (i := 8) (by kernel_rfl) Try.underlying3 rfl
  have b1_8 := bounds_i64 w1_8
  obtain ⟨a1_9, rfl, w1_9⟩ := leaf_int 9 h1 (i := 9) (by kernel_rfl) Try.underlying3 rfl
  have b1_9 := bounds_i64 w1_9
  obtain ⟨a1_10, rfl, w1_10⟩ := leaf_int 9 h1 (i := 10) (by kernel_rfl) Try.underlying3 rfl
  have b1_10 := bounds_i64 w1_10
  obtain ⟨a1_11, rfl, w1_11⟩ := leaf_int 9 h1 (i := 11) (by kernel_rfl) Try.underlying3 rfl
  have b1_11 := bounds_i64 w1_11
  obtain ⟨a2, rfl, rfl, rfl, w2⟩ := open_int Try.underlying5 (hval 2 5 v2 rfl rfl) h2
  have b2 := bounds_u8 w2
  obtain ⟨n2, rfl⟩ := Int.eq_ofNat_of_zero_le b2.1
  refine (hubForgets_walk n0 (by omega) a1_0 b1_0 a1_1 b1_1 a1_2 b1_2 a1_3 b1_3 a1_4 b1_4 a1_5 b1_5 a1_6 b1_6 a1_7 b1_7 a1_8 b1_8 a1_9 b1_9 a1_10 b1_10 a1_11 b1_11 n2 (by omega)).mono fun e W' ⟨he, hb⟩ => ?_
  subst he
  exact ⟨_, rfl, law_end hubForgets_laid hubForgets_kinds hW' rfl (by kernel_rfl) Try.underlying4 rfl rfl rfl hb⟩

/-- The statement. -/
theorem hubForgets_holds : Rows.HubForgetsSaid :=
  OpenClaim.holds_of_wide 6 Try.f6 rfl rfl rfl rfl rfl rfl rfl ⟨rfl, rfl, rfl, rfl, rfl⟩ rfl rfl rfl rfl rfl (by kernel_rfl) Try.func6 (by kernel_rfl)
    (of_decide_eq_true (by kernel_rfl)) (by unfold Func.isWrapper; first | (rw [if_pos (by decide +kernel)]; kernel_rfl) | (rw [if_neg (by decide +kernel)]; exact ⟨rfl, rfl⟩))
    (fun os started H enc _ => hubForgets_lifted os started H enc)
end Go.Proofs.Ytkdmmomfolhfbaa
