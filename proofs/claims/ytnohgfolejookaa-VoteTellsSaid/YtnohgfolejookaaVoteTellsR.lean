/-
  Whether any hub may be, a fresh one, any one made right, and a tick later, how many votes any slot has, and which one has most, are the document's. For all numbers, slots and hubs.
-/
import Derived.Test.YtnohgfolejookaaVoteW
import Derived.Test.YtnohgfolejookaaFlat
import Derived.Test.YtnohgfolejookaaKit
namespace Go.Proofs.Ytnohgfolejookaa
open Go.ChangeShapes Go.WideShapes Go.RowKit
open Go.ChangeMaps (open_string)
set_option linter.unusedVariables false
set_option linter.unusedSimpArgs false

theorem voteTells_arr12 {α : Type} {cs : Array α} (h : cs.size = 12) : ∃ c0 c1 c2 c3 c4 c5 c6 c7 c8 c9 c10 c11, cs = #[c0, c1, c2, c3, c4, c5, c6, c7, c8, c9, c10, c11] := by
  obtain ⟨l⟩ := cs
  match l, h with
  | [c0, c1, c2, c3, c4, c5, c6, c7, c8, c9, c10, c11], _ => exact ⟨c0, c1, c2, c3, c4, c5, c6, c7, c8, c9, c10, c11, rfl⟩

theorem voteTells_own : ownKnob Try.prog.godebug = none := by kernel_rfl
theorem voteTells_laid : laidOutB Try.prog = true := by kernel_rfl
theorem voteTells_kinds : ∀ t ∈ Try.f3.params.toList, Try.prog.readableRec t = true ∧ t < Try.prog.types.size := by
  rw [Try.params3]
  intro t ht
  simp only [List.mem_cons, List.not_mem_nil, or_false] at ht
  rcases ht with rfl | rfl | rfl <;> exact ⟨by kernel_rfl, of_decide_eq_true (by kernel_rfl)⟩

set_option maxRecDepth 100000 in
theorem voteTells_lifted (os : Os) (started : os.Started) (H : Type) (enc : TypeId × Value → H) :
    ReturnsInHanded {} Try.checked os 3 .any (Rows.voteTellsSpec.pre6 enc Try.prog Try.f3 Rows.voteTellsRow.domain false) (Rows.voteTellsSpec.post enc Try.prog Try.f3 false true false false) := by
  refine returnsInHanded_of_change (C := Try.checked) voteTells_own started (by kernel_rfl) Try.func3
    (ChangeSpec.witness6 (enc := enc) (C := Try.checked) false ⟨#[], #[.int .i64 0, .int .i64 0, .agg #[.int .i64 0, .int .i64 0, .int .i64 0, .int .i64 0, .int .i64 0, .int .i64 0, .int .i64 0, .int .i64 0, .int .i64 0, .int .i64 0, .int .i64 0, .int .i64 0]], []⟩ 8 (by kernel_rfl) (by kernel_rfl) (by kernel_rfl) (by kernel_rfl)) ?_
  intro W base args ds gs before hval0 hW hcnd _
  have hval : ∀ (j : Nat) t v, Try.f3.params[j]? = some t → args[j]? = some v → Value.okWide Try.prog W .any base t v := hval0
  have hW' := hW
  obtain ⟨p, q, hA0, hV, rfl, hfz, hnd⟩ := hW
  have hA : DataW.TrodAll enc Try.prog W 0 (fun _ => true) true Try.f3.params.toList args.toList ds p := hA0
  rw [Try.params3] at hA hval
  obtain ⟨v0, vs0, d0, ds0, p0, q0, hargs, rfl, rfl, h0, r0⟩ := trodAll_cons hA
  obtain ⟨v1, vs1, d1, ds1, p1, q1, rfl, rfl, rfl, h1, r1⟩ := trodAll_cons r0
  obtain ⟨v2, vs2, d2, ds2, p2, q2, rfl, rfl, rfl, h2, r2⟩ := trodAll_cons r1
  obtain ⟨rfl, rfl, rfl⟩ := trodAll_nil r2
  obtain rfl : args = #[v0, v1, v2] := by cases args; simp_all
  obtain ⟨rfl, rfl⟩ := trodVars_none hV
  obtain ⟨a0, rfl, rfl, rfl, w0⟩ := open_int Try.underlying3 (hval 0 3 v0 rfl rfl) h0
  have b0 := bounds_i64 w0
  obtain ⟨a1, rfl, rfl, rfl, w1⟩ := open_int Try.underlying3 (hval 1 3 v1 rfl rfl) h1
  have b1 := bounds_i64 w1
  obtain ⟨cs2, rfl, hz2⟩ := okWide_struct Try.underlying24 (hval 2 24 v2 rfl rfl)
  obtain ⟨c2_0, c2_1, c2_2, c2_3, c2_4, c2_5, c2_6, c2_7, c2_8, c2_9, c2_10, c2_11, rfl⟩ := voteTells_arr12 (hz2.trans (by kernel_rfl))
  obtain ⟨a2_0, rfl, w2_0⟩ := leaf_int 9 h2 (i := 0) (by kernel_rfl) Try.underlying3 rfl
  have b2_0 := bounds_i64 w2_0
  obtain ⟨a2_1, rfl, w2_1⟩ := leaf_int 9 h2 (i := 1) (by kernel_rfl) Try.underlying3 rfl
  have b2_1 := bounds_i64 w2_1
  obtain ⟨a2_2, rfl, w2_2⟩ := leaf_int 9 h2 (i := 2) (by kernel_rfl) Try.underlying3 rfl
  have b2_2 := bounds_i64 w2_2
  obtain ⟨a2_3, rfl, w2_3⟩ := leaf_int 9 h2 (i := 3) (by kernel_rfl) Try.underlying3 rfl
  have b2_3 := bounds_i64 w2_3
  obtain ⟨a2_4, rfl, w2_4⟩ := leaf_int 9 h2 (i := 4) (by kernel_rfl) Try.underlying3 rfl
  have b2_4 := bounds_i64 w2_4
  obtain ⟨a2_5, rfl, w2_5⟩ := leaf_int 9 h2 (i := 5) (by kernel_rfl) Try.underlying3 rfl
  have b2_5 := bounds_i64 w2_5
  obtain ⟨a2_6, rfl, w2_6⟩ := leaf_int 9 h2 (i := 6) (by kernel_rfl) Try.underlying3 rfl
  have b2_6 := bounds_i64 w2_6
  obtain ⟨a2_7, rfl, w2_7⟩ := leaf_int 9 h2 (i := 7) (by kernel_rfl) Try.underlying3 rfl
  have b2_7 := bounds_i64 w2_7
  obtain ⟨a2_8, rfl, w2_8⟩ := leaf_int 9 h2 (i := 8) (by kernel_rfl) Try.underlying3 rfl
  have b2_8 := bounds_i64 w2_8
  obtain ⟨a2_9, rfl, w2_9⟩ := leaf_int 9 h2 (i := 9) (by kernel_rfl) Try.underlying3 rfl
  have b2_9 := bounds_i64 w2_9
  obtain ⟨a2_10, rfl, w2_10⟩ := leaf_int 9 h2 (i := 10) (by kernel_rfl) Try.underlying3 rfl
  have b2_10 := bounds_i64 w2_10
  obtain ⟨a2_11, rfl, w2_11⟩ := leaf_int 9 h2 (i := 11) (by kernel_rfl) Try.underlying3 rfl
  have b2_11 := bounds_i64 w2_11
  refine (voteTells_walk a0 b0 a1 b1 a2_0 b2_0 a2_1 b2_1 a2_2 b2_2 a2_3 b2_3 a2_4 b2_4 a2_5 b2_5 a2_6 b2_6 a2_7 b2_7 a2_8 b2_8 a2_9 b2_9 a2_10 b2_10 a2_11 b2_11 W).mono fun e W' ⟨he, hb⟩ => ?_
  subst he
  exact ⟨_, rfl, law_end voteTells_laid voteTells_kinds hW' rfl (by kernel_rfl) Try.underlying4 rfl rfl rfl hb⟩

/-- The statement. -/
theorem voteTells_holds : Rows.VoteTellsSaid :=
  OpenClaim.holds_of_wide 3 Try.f3 rfl rfl rfl rfl rfl rfl rfl ⟨rfl, rfl, rfl, rfl, rfl⟩ rfl rfl rfl rfl rfl (by kernel_rfl) Try.func3 (by kernel_rfl)
    (of_decide_eq_true (by kernel_rfl)) (by unfold Func.isWrapper; first | (rw [if_pos (by decide +kernel)]; kernel_rfl) | (rw [if_neg (by decide +kernel)]; exact ⟨rfl, rfl⟩))
    (fun os started H enc _ => voteTells_lifted os started H enc)
end Go.Proofs.Ytnohgfolejookaa
