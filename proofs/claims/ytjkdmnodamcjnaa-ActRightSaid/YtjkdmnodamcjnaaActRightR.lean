/-
  What becomes of a node may be, and has its Id; whoever hears an Info, and nothing else, is Active in the slot behind it, or listens; without the document's answer.
-/
import Derived.Test.YtjkdmnodamcjnaaActL
import Derived.Test.YtjkdmnodamcjnaaFlat
import Derived.Test.YtjkdmnodamcjnaaKit
namespace Go.Proofs.Ytjkdmnodamcjnaa
open Go.ChangeShapes Go.WideShapes Go.RowKit
open Go.ChangeMaps (open_string)
set_option linter.unusedVariables false
set_option linter.unusedSimpArgs false

theorem actRight_arr4 {α : Type} {cs : Array α} (h : cs.size = 4) : ∃ c0 c1 c2 c3, cs = #[c0, c1, c2, c3] := by
  obtain ⟨l⟩ := cs
  match l, h with
  | [c0, c1, c2, c3], _ => exact ⟨c0, c1, c2, c3, rfl⟩

theorem actRight_own : ownKnob Try.prog.godebug = none := by kernel_rfl
theorem actRight_laid : laidOutB Try.prog = true := by kernel_rfl
theorem actRight_kinds : ∀ t ∈ Try.f4.params.toList, Try.prog.readableRec t = true ∧ t < Try.prog.types.size := by
  rw [Try.params4]
  intro t ht
  simp only [List.mem_cons, List.not_mem_nil, or_false] at ht
  rcases ht with rfl | rfl | rfl <;> exact ⟨by kernel_rfl, of_decide_eq_true (by kernel_rfl)⟩

set_option maxRecDepth 100000 in
theorem actRight_lifted (os : Os) (started : os.Started) (H : Type) (enc : TypeId × Value → H) :
    ReturnsInHanded {} Try.checked os 4 .any (Rows.actRightSpec.pre6 enc Try.prog Try.f4 Rows.actRightRow.domain false) (Rows.actRightSpec.post enc Try.prog Try.f4 false true false false) := by
  refine returnsInHanded_of_change (C := Try.checked) actRight_own started (by kernel_rfl) Try.func4
    (ChangeSpec.witness6 (enc := enc) (C := Try.checked) false ⟨#[], #[.int .u8 0, .agg #[.int .i64 0, .int .i64 0, .int .i64 0, .int .i64 0], .agg #[.int .i64 0, .int .i64 0, .int .i64 0, .int .i64 0]], []⟩ 8 (by kernel_rfl) (by kernel_rfl) (by kernel_rfl) (by kernel_rfl)) ?_
  intro W base args ds gs before hval0 hW hcnd _
  have hval : ∀ (j : Nat) t v, Try.f4.params[j]? = some t → args[j]? = some v → Value.okWide Try.prog W .any base t v := hval0
  have hW' := hW
  obtain ⟨p, q, hA0, hV, rfl, hfz, hnd⟩ := hW
  have hA : DataW.TrodAll enc Try.prog W 0 (fun _ => true) true Try.f4.params.toList args.toList ds p := hA0
  rw [Try.params4] at hA hval
  obtain ⟨v0, vs0, d0, ds0, p0, q0, hargs, rfl, rfl, h0, r0⟩ := trodAll_cons hA
  obtain ⟨v1, vs1, d1, ds1, p1, q1, rfl, rfl, rfl, h1, r1⟩ := trodAll_cons r0
  obtain ⟨v2, vs2, d2, ds2, p2, q2, rfl, rfl, rfl, h2, r2⟩ := trodAll_cons r1
  obtain ⟨rfl, rfl, rfl⟩ := trodAll_nil r2
  obtain rfl : args = #[v0, v1, v2] := by cases args; simp_all
  obtain ⟨rfl, rfl⟩ := trodVars_none hV
  obtain ⟨a0, rfl, rfl, rfl, w0⟩ := open_int Try.underlying5 (hval 0 5 v0 rfl rfl) h0
  have b0 := bounds_u8 w0
  obtain ⟨n0, rfl⟩ := Int.eq_ofNat_of_zero_le b0.1
  obtain ⟨v1_0, v1_1, v1_2, v1_3, y1_0, y1_1, y1_2, y1_3, m1, rfl, rfl, rfl, h1_0, h1_1, h1_2, h1_3⟩ := Joins.open_agg4 Try.underlying23 (by kernel_rfl) (by kernel_rfl) (hval 1 23 v1 rfl rfl) h1
  obtain ⟨a1_0, rfl, b1_0⟩ := cell_i64 Try.underlying3 h1_0
  obtain ⟨a1_1, rfl, b1_1⟩ := cell_i64 Try.underlying3 h1_1
  obtain ⟨a1_2, rfl, b1_2⟩ := cell_i64 Try.underlying3 h1_2
  obtain ⟨a1_3, rfl, b1_3⟩ := cell_i64 Try.underlying3 h1_3
  obtain ⟨cs2, rfl, hz2⟩ := okWide_array Try.underlying26 (hval 2 26 v2 rfl rfl)
  obtain ⟨c2_0, c2_1, c2_2, c2_3, rfl⟩ := actRight_arr4 (hz2.trans (by kernel_rfl))
  obtain ⟨a2_0, rfl, w2_0⟩ := leaf_int 9 h2 (i := 0) (by kernel_rfl) Try.underlying3 rfl
  have b2_0 := bounds_i64 w2_0
  obtain ⟨a2_1, rfl, w2_1⟩ := leaf_int 9 h2 (i := 1) (by kernel_rfl) Try.underlying3 rfl
  have b2_1 := bounds_i64 w2_1
  obtain ⟨a2_2, rfl, w2_2⟩ := leaf_int 9 h2 (i := 2) (by kernel_rfl) Try.underlying3 rfl
  have b2_2 := bounds_i64 w2_2
  obtain ⟨a2_3, rfl, w2_3⟩ := leaf_int 9 h2 (i := 3) (by kernel_rfl) Try.underlying3 rfl
  have b2_3 := bounds_i64 w2_3
  refine (actRight_walk n0 (by omega) a1_0 b1_0 a1_1 b1_1 a1_2 b1_2 a1_3 b1_3 a2_0 b2_0 a2_1 b2_1 a2_2 b2_2 a2_3 b2_3 W).mono fun e W' ⟨he, hb⟩ => ?_
  subst he
  exact ⟨_, rfl, law_end actRight_laid actRight_kinds hW' rfl (by kernel_rfl) Try.underlying4 rfl rfl rfl hb⟩

/-- The statement. -/
theorem actRight_holds : Rows.ActRightSaid :=
  OpenClaim.holds_of_wide 4 Try.f4 rfl rfl rfl rfl rfl rfl rfl ⟨rfl, rfl, rfl, rfl, rfl⟩ rfl rfl rfl rfl rfl (by kernel_rfl) Try.func4 (by kernel_rfl)
    (of_decide_eq_true (by kernel_rfl)) (by unfold Func.isWrapper; first | (rw [if_pos (by decide +kernel)]; kernel_rfl) | (rw [if_neg (by decide +kernel)]; exact ⟨rfl, rfl⟩))
    (fun os started H enc _ => actRight_lifted os started H enc)
end Go.Proofs.Ytjkdmnodamcjnaa
