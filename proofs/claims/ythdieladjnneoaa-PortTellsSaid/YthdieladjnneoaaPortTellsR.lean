/-
  Whatever PortTells is called with: it answers true, and its argument reads as it did. No condition.
-/
import Derived.Test.YthdieladjnneoaaPortM
import Derived.Test.YthdieladjnneoaaFlat
import Derived.Test.YthdieladjnneoaaSlc
import Derived.Test.YthdieladjnneoaaKit
namespace Go.Proofs.Ythdieladjnneoaa
open Go.ChangeShapes Go.WideShapes Go.RowKit
open Go.ChangeMaps (open_string)
set_option linter.unusedVariables false
set_option linter.unusedSimpArgs false

theorem portTells_arr4 {α : Type} {cs : Array α} (h : cs.size = 4) : ∃ c0 c1 c2 c3, cs = #[c0, c1, c2, c3] := by
  obtain ⟨l⟩ := cs
  match l, h with
  | [c0, c1, c2, c3], _ => exact ⟨c0, c1, c2, c3, rfl⟩

theorem portTells_own : ownKnob Try.prog.godebug = none := by kernel_rfl
theorem portTells_laid : laidOutB Try.prog = true := by kernel_rfl
theorem portTells_kinds : ∀ t ∈ Try.f3.params.toList, Try.prog.readableRec t = true ∧ t < Try.prog.types.size := by
  rw [Try.params3]
  intro t ht
  simp only [List.mem_cons, List.not_mem_nil, or_false] at ht
  subst ht
  exact ⟨by kernel_rfl, of_decide_eq_true (by kernel_rfl)⟩

set_option maxRecDepth 100000 in
theorem portTells_lifted (os : Os) (started : os.Started) (H : Type) (enc : TypeId × Value → H) :
    ReturnsInHanded {} Try.checked os 3 .any (Rows.portTellsSpec.pre6 enc Try.prog Try.f3 Rows.portTellsRow.domain false) (Rows.portTellsSpec.post enc Try.prog Try.f3 false true false false) := by
  refine returnsInHanded_of_change (C := Try.checked) portTells_own started (by kernel_rfl) Try.func3
    (ChangeSpec.witness6 (enc := enc) (C := Try.checked) false ⟨#[], #[.agg #[.int .i64 0, .slice none 0 0, .slice none 0 0, .slice none 0 0]], []⟩ 8 (by kernel_rfl) (by kernel_rfl) (by kernel_rfl) (by kernel_rfl)) ?_
  intro W base args ds gs before hval0 hW hcnd _
  have hval : ∀ (j : Nat) t v, Try.f3.params[j]? = some t → args[j]? = some v → Value.okWide Try.prog W .any base t v := hval0
  have hW' := hW
  obtain ⟨p, q, hA0, hV, rfl, hfz, hnd⟩ := hW
  have hA : DataW.TrodAll enc Try.prog W 0 (fun _ => true) true Try.f3.params.toList args.toList ds p := hA0
  rw [Try.params3] at hA hval
  obtain ⟨v0, vs0, d0, ds0, p0, q0, hargs, rfl, rfl, h0, r0⟩ := trodAll_cons hA
  obtain ⟨rfl, rfl, rfl⟩ := trodAll_nil r0
  obtain rfl : args = #[v0] := by cases args; simp_all
  obtain ⟨rfl, rfl⟩ := trodVars_none hV
  obtain ⟨cs0, rfl, hz0⟩ := okWide_struct Try.underlying25 (hval 0 25 v0 rfl rfl)
  obtain ⟨c0_0, c0_1, c0_2, c0_3, rfl⟩ := portTells_arr4 (hz0.trans (by kernel_rfl))
  obtain ⟨a0_0, rfl, w0_0⟩ := leaf_int 9 h0 (i := 0) (by kernel_rfl) Try.underlying3 rfl
  have b0_0 := bounds_i64 w0_0
  obtain ⟨fu0_1, y0_1, hy0_1⟩ := leaf_slice 9 h0 (i := 1) (t' := 22) (by kernel_rfl) rfl
  obtain ⟨n0_1, f0_1, m0_1, r0_1, b0_1⟩ := strs_of Try.underlying22 Try.underlying9 (by kernel_rfl) hy0_1
  obtain ⟨fu0_2, y0_2, hy0_2⟩ := leaf_slice 9 h0 (i := 2) (t' := 23) (by kernel_rfl) rfl
  obtain ⟨n0_2, f0_2, m0_2, r0_2, b0_2⟩ := prs_of Try.underlying23 Try.underlying35 (by kernel_rfl) rfl rfl (by kernel_rfl) (by kernel_rfl) Try.underlying3 Try.underlying3 hy0_2
  obtain ⟨fu0_3, y0_3, hy0_3⟩ := leaf_slice 9 h0 (i := 3) (t' := 23) (by kernel_rfl) rfl
  obtain ⟨n0_3, f0_3, m0_3, r0_3, b0_3⟩ := prs_of Try.underlying23 Try.underlying35 (by kernel_rfl) rfl rfl (by kernel_rfl) (by kernel_rfl) Try.underlying3 Try.underlying3 hy0_3
  refine (portTells_walk a0_0 b0_0 _ n0_1 f0_1 m0_1 r0_1 b0_1 _ n0_2 f0_2 m0_2 r0_2 _ n0_3 f0_3 m0_3 r0_3).mono fun e W' ⟨he, hb⟩ => ?_
  subst he
  exact ⟨_, rfl, law_end portTells_laid portTells_kinds hW' rfl (by kernel_rfl) Try.underlying4 rfl rfl rfl hb⟩

/-- The statement. -/
theorem portTells_holds : Rows.PortTellsSaid :=
  OpenClaim.holds_of_wide 3 Try.f3 rfl rfl rfl rfl rfl rfl rfl ⟨rfl, rfl, rfl, rfl, rfl⟩ rfl rfl rfl rfl rfl (by kernel_rfl) Try.func3 (by kernel_rfl)
    (of_decide_eq_true (by kernel_rfl)) (by unfold Func.isWrapper; first | (rw [if_pos (by decide +kernel)]; kernel_rfl) | (rw [if_neg (by decide +kernel)]; exact ⟨rfl, rfl⟩))
    (fun os started H enc _ => portTells_lifted os started H enc)
end Go.Proofs.Ythdieladjnneoaa
