/-
  A hub that holds a slot, of which each owner but one speaks each round, goes on holding it, a slot further each tick, and relays all of these, whatever the one says. Without the document's answer.
-/
import Derived.Test.YtkdmmomfolhfbaaHubM
import Derived.Test.YtkdmmomfolhfbaaMem
namespace Go.Proofs.Ytkdmmomfolhfbaa
open Go.ChangeShapes Go.WideShapes Go.RowKit
open Go.ChangeMaps (open_string)
set_option linter.unusedVariables false
set_option linter.unusedSimpArgs false

theorem hubHolds_arr15 {α : Type} {cs : Array α} (h : cs.size = 15) : ∃ c0 c1 c2 c3 c4 c5 c6 c7 c8 c9 c10 c11 c12 c13 c14, cs = #[c0, c1, c2, c3, c4, c5, c6, c7, c8, c9, c10, c11, c12, c13, c14] := by
  obtain ⟨l⟩ := cs
  match l, h with
  | [c0, c1, c2, c3, c4, c5, c6, c7, c8, c9, c10, c11, c12, c13, c14], _ => exact ⟨c0, c1, c2, c3, c4, c5, c6, c7, c8, c9, c10, c11, c12, c13, c14, rfl⟩

theorem hubHolds_own : ownKnob Try.prog.godebug = none := by kernel_rfl
theorem hubHolds_laid : laidOutB Try.prog = true := by kernel_rfl
theorem hubHolds_kinds : ∀ t ∈ Try.f5.params.toList, Try.prog.readableRec t = true ∧ t < Try.prog.types.size := by
  rw [Try.params5]
  intro t ht
  simp only [List.mem_cons, List.not_mem_nil, or_false] at ht
  subst ht
  exact ⟨by kernel_rfl, of_decide_eq_true (by kernel_rfl)⟩

set_option maxRecDepth 100000 in
theorem hubHolds_lifted (os : Os) (started : os.Started) (H : Type) (enc : TypeId × Value → H) :
    ReturnsInHanded {} Try.checked os 5 .any (Rows.hubHoldsSpec.pre6 enc Try.prog Try.f5 Rows.hubHoldsRow.domain false) (Rows.hubHoldsSpec.post enc Try.prog Try.f5 false true false false) := by
  refine returnsInHanded_of_change (C := Try.checked) hubHolds_own started (by kernel_rfl) Try.func5
    (ChangeSpec.witness6 (enc := enc) (C := Try.checked) false ⟨#[], #[.agg #[.int .u8 0, .int .i64 0, .int .i64 0, .int .i64 0, .int .i64 0, .int .i64 0, .int .i64 0, .int .i64 0, .int .i64 0, .int .i64 0, .int .i64 0, .int .i64 0, .int .i64 0, .int .u8 0, .slice none 0 0]], []⟩ 8 (by kernel_rfl) (by kernel_rfl) (by kernel_rfl) (by kernel_rfl)) ?_
  intro W base args ds gs before hval0 hW hcnd _
  have hval : ∀ (j : Nat) t v, Try.f5.params[j]? = some t → args[j]? = some v → Value.okWide Try.prog W .any base t v := hval0
  have hW' := hW
  obtain ⟨p, q, hA0, hV, rfl, hfz, hnd⟩ := hW
  have hA : DataW.TrodAll enc Try.prog W 0 (fun _ => true) true Try.f5.params.toList args.toList ds p := hA0
  rw [Try.params5] at hA hval
  obtain ⟨v0, vs0, d0, ds0, p0, q0, hargs, rfl, rfl, h0, r0⟩ := trodAll_cons hA
  obtain ⟨rfl, rfl, rfl⟩ := trodAll_nil r0
  obtain rfl : args = #[v0] := by cases args; simp_all
  obtain ⟨rfl, rfl⟩ := trodVars_none hV
  obtain ⟨cs0, rfl, hz0⟩ := okWide_struct Try.underlying43 (hval 0 43 v0 rfl rfl)
  obtain ⟨c0_0, c0_1, c0_2, c0_3, c0_4, c0_5, c0_6, c0_7, c0_8, c0_9, c0_10, c0_11, c0_12, c0_13, c0_14, rfl⟩ := hubHolds_arr15 (hz0.trans (by kernel_rfl))
  obtain ⟨a0_0, rfl, w0_0⟩ := leaf_int 9 h0 (i := 0) (by kernel_rfl) Try.underlying5 rfl
  have b0_0 := bounds_u8 w0_0
  obtain ⟨n0_0, rfl⟩ := Int.eq_ofNat_of_zero_le b0_0.1
  obtain ⟨a0_1, rfl, w0_1⟩ := leaf_int 9 h0 (i := 1) (by kernel_rfl) Try.underlying3 rfl
  have b0_1 := bounds_i64 w0_1
  obtain ⟨a0_2, rfl, w0_2⟩ := leaf_int 9 h0 (i := 2) (by kernel_rfl) Try.underlying3 rfl
  have b0_2 := bounds_i64 w0_2
  obtain ⟨a0_3, rfl, w0_3⟩ := leaf_int 9 h0 (i := 3) (by kernel_rfl) Try.underlying3 rfl
  have b0_3 := bounds_i64 w0_3
  obtain ⟨a0_4, rfl, w0_4⟩ := leaf_int 9 h0 (i := 4) (by kernel_rfl) Try.underlying3 rfl
  have b0_4 := bounds_i64 w0_4
  obtain ⟨a0_5, rfl, w0_5⟩ := leaf_int 9 h0 (i := 5) (by kernel_rfl) Try.underlying3 rfl
  have b0_5 := bounds_i64 w0_5
  obtain ⟨a0_6, rfl, w0_6⟩ := leaf_int 9 h0 (i := 6) (by kernel_rfl) Try.underlying3 rfl
  have b0_6 := bounds_i64 w0_6
  obtain ⟨a0_7, rfl, w0_7⟩ := leaf_int 9 h0 (i := 7) (by kernel_rfl) Try.underlying3 rfl
  have b0_7 := bounds_i64 w0_7
  obtain ⟨a0_8, rfl, w0_8⟩ := leaf_int 9 h0 (i := 8) (by kernel_rfl) Try.underlying3 rfl
  have b0_8 := bounds_i64 w0_8
  obtain ⟨a0_9, rfl, w0_9⟩ := leaf_int 9 h0 (i := 9) (by kernel_rfl) Try.underlying3 rfl
  have b0_9 := bounds_i64 w0_9
  obtain ⟨a0_10, rfl, w0_10⟩ := leaf_int 9 h0 (i := 10) (by kernel_rfl) Try.underlying3 rfl
  have b0_10 := bounds_i64 w0_10
  obtain ⟨a0_11, rfl, w0_11⟩ := leaf_int 9 h0 (i := 11) (by kernel_rfl) Try.underlying3 rfl
  have b0_11 := bounds_i64 w0_11
  obtain ⟨a0_12, rfl, w0_12⟩ := leaf_int 9 h0 (i := 12) (by kernel_rfl) Try.underlying3 rfl
  have b0_12 := bounds_i64 w0_12
  obtain ⟨a0_13, rfl, w0_13⟩ := leaf_int 9 h0 (i := 13) (by kernel_rfl) Try.underlying5 rfl
  have b0_13 := bounds_u8 w0_13
  obtain ⟨n0_13, rfl⟩ := Int.eq_ofNat_of_zero_le b0_13.1
  obtain ⟨fu0_14, y0_14, hy0_14⟩ := leaf_slice 9 h0 (i := 14) (t' := 41) (by kernel_rfl) rfl
  obtain ⟨n0_14, f0_14, m0_14, r0_14, b0_14⟩ := bts_of Try.underlying41 Try.underlying5 (by kernel_rfl) hy0_14
  refine (hubHolds_walk n0_0 (by omega) a0_1 b0_1 a0_2 b0_2 a0_3 b0_3 a0_4 b0_4 a0_5 b0_5 a0_6 b0_6 a0_7 b0_7 a0_8 b0_8 a0_9 b0_9 a0_10 b0_10 a0_11 b0_11 a0_12 b0_12 n0_13 (by omega) _ n0_14 f0_14 m0_14 r0_14 b0_14).mono fun e W' ⟨he, hb⟩ => ?_
  subst he
  exact ⟨_, rfl, law_end hubHolds_laid hubHolds_kinds hW' rfl (by kernel_rfl) Try.underlying4 rfl rfl rfl hb⟩

/-- The statement. -/
theorem hubHolds_holds : Rows.HubHoldsSaid :=
  OpenClaim.holds_of_wide 5 Try.f5 rfl rfl rfl rfl rfl rfl rfl ⟨rfl, rfl, rfl, rfl, rfl⟩ rfl rfl rfl rfl rfl (by kernel_rfl) Try.func5 (by kernel_rfl)
    (of_decide_eq_true (by kernel_rfl)) (by unfold Func.isWrapper; first | (rw [if_pos (by decide +kernel)]; kernel_rfl) | (rw [if_neg (by decide +kernel)]; exact ⟨rfl, rfl⟩))
    (fun os started H enc _ => hubHolds_lifted os started H enc)
end Go.Proofs.Ytkdmmomfolhfbaa
