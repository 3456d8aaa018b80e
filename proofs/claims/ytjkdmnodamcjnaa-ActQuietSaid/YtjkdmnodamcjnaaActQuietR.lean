/-
  In a round in which nothing is heard an Active node is in the same slot again, and its Count is so much greater; a watched one listens in the end; without the document's answer.
-/
import Derived.Test.YtjkdmnodamcjnaaActM
import Derived.Test.YtjkdmnodamcjnaaFlat
import Derived.Test.YtjkdmnodamcjnaaKit
namespace Go.Proofs.Ytjkdmnodamcjnaa
open Go.ChangeShapes Go.WideShapes Go.RowKit
open Go.ChangeMaps (open_string)
set_option linter.unusedVariables false
set_option linter.unusedSimpArgs false

theorem actQuiet_arr4 {α : Type} {cs : Array α} (h : cs.size = 4) : ∃ c0 c1 c2 c3, cs = #[c0, c1, c2, c3] := by
  obtain ⟨l⟩ := cs
  match l, h with
  | [c0, c1, c2, c3], _ => exact ⟨c0, c1, c2, c3, rfl⟩

theorem actQuiet_own : ownKnob Try.prog.godebug = none := by kernel_rfl
theorem actQuiet_laid : laidOutB Try.prog = true := by kernel_rfl
theorem actQuiet_kinds : ∀ t ∈ Try.f5.params.toList, Try.prog.readableRec t = true ∧ t < Try.prog.types.size := by
  rw [Try.params5]
  intro t ht
  simp only [List.mem_cons, List.not_mem_nil, or_false] at ht
  subst ht
  exact ⟨by kernel_rfl, of_decide_eq_true (by kernel_rfl)⟩

set_option maxRecDepth 100000 in
theorem actQuiet_lifted (os : Os) (started : os.Started) (H : Type) (enc : TypeId × Value → H) :
    ReturnsInHanded {} Try.checked os 5 .any (Rows.actQuietSpec.pre6 enc Try.prog Try.f5 Rows.actQuietRow.domain false) (Rows.actQuietSpec.post enc Try.prog Try.f5 false true false false) := by
  refine returnsInHanded_of_change (C := Try.checked) actQuiet_own started (by kernel_rfl) Try.func5
    (ChangeSpec.witness6 (enc := enc) (C := Try.checked) false ⟨#[], #[.agg #[.int .u8 0, .int .u8 0, .int .u8 0, .int .u16 0]], []⟩ 8 (by kernel_rfl) (by kernel_rfl) (by kernel_rfl) (by kernel_rfl)) ?_
  intro W base args ds gs before hval0 hW hcnd _
  have hval : ∀ (j : Nat) t v, Try.f5.params[j]? = some t → args[j]? = some v → Value.okWide Try.prog W .any base t v := hval0
  have hW' := hW
  obtain ⟨p, q, hA0, hV, rfl, hfz, hnd⟩ := hW
  have hA : DataW.TrodAll enc Try.prog W 0 (fun _ => true) true Try.f5.params.toList args.toList ds p := hA0
  rw [Try.params5] at hA hval
  obtain ⟨v0, vs0, d0, ds0, p0, q0, hargs, rfl, rfl, h0, r0⟩ := trodAll_cons hA
  obtain ⟨rfl, rfl, rfl⟩ := trodAll_nil r0
  obtain rfl : args = #[v0] := by cases args; simp_all
  obtain ⟨rfl, rfl⟩ := trodVars_none hV
  obtain ⟨cs0, rfl, hz0⟩ := okWide_struct Try.underlying40 (hval 0 40 v0 rfl rfl)
  obtain ⟨c0_0, c0_1, c0_2, c0_3, rfl⟩ := actQuiet_arr4 (hz0.trans (by kernel_rfl))
  obtain ⟨a0_0, rfl, w0_0⟩ := leaf_int 9 h0 (i := 0) (by kernel_rfl) Try.underlying5 rfl
  have b0_0 := bounds_u8 w0_0
  obtain ⟨n0_0, rfl⟩ := Int.eq_ofNat_of_zero_le b0_0.1
  obtain ⟨a0_1, rfl, w0_1⟩ := leaf_int 9 h0 (i := 1) (by kernel_rfl) Try.underlying5 rfl
  have b0_1 := bounds_u8 w0_1
  obtain ⟨n0_1, rfl⟩ := Int.eq_ofNat_of_zero_le b0_1.1
  obtain ⟨a0_2, rfl, w0_2⟩ := leaf_int 9 h0 (i := 2) (by kernel_rfl) Try.underlying5 rfl
  have b0_2 := bounds_u8 w0_2
  obtain ⟨n0_2, rfl⟩ := Int.eq_ofNat_of_zero_le b0_2.1
  obtain ⟨a0_3, rfl, w0_3⟩ := leaf_int 9 h0 (i := 3) (by kernel_rfl) Try.underlying38 rfl
  have b0_3 := bounds_u16 w0_3
  obtain ⟨n0_3, rfl⟩ := Int.eq_ofNat_of_zero_le b0_3.1
  refine (actQuiet_walk n0_0 (by omega) n0_1 (by omega) n0_2 (by omega) n0_3 (by omega) W).mono fun e W' ⟨he, hb⟩ => ?_
  subst he
  exact ⟨_, rfl, law_end actQuiet_laid actQuiet_kinds hW' rfl (by kernel_rfl) Try.underlying4 rfl rfl rfl hb⟩

/-- The statement. -/
theorem actQuiet_holds : Rows.ActQuietSaid :=
  OpenClaim.holds_of_wide 5 Try.f5 rfl rfl rfl rfl rfl rfl rfl ⟨rfl, rfl, rfl, rfl, rfl⟩ rfl rfl rfl rfl rfl (by kernel_rfl) Try.func5 (by kernel_rfl)
    (of_decide_eq_true (by kernel_rfl)) (by unfold Func.isWrapper; first | (rw [if_pos (by decide +kernel)]; kernel_rfl) | (rw [if_neg (by decide +kernel)]; exact ⟨rfl, rfl⟩))
    (fun os started H enc _ => actQuiet_lifted os started H enc)
end Go.Proofs.Ytjkdmnodamcjnaa
