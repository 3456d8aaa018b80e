
import Derived.Test.YthdieladjnneoaaRows
import Derived.Test.YthdieladjnneoaaWire0
import Derived.Test.YthdieladjnneoaaCrcC
import Derived.Test.YthdieladjnneoaaKit
import Derived.WalkKit
import Derived.WalkLawsBesides
import Derived.WalkSpells
import Derived.Outline
import Derived.Lib.Hide
namespace Go.Proofs.Ythdieladjnneoaa
set_option linter.unusedVariables false
set_option linter.unusedSimpArgs false
open Go.ChangeShapes Go.WideShapes Go.RowKit

theorem wright_any (k i : Int) (w : World) :
    Calls Try.prog 29 #[.agg #[.int .i64 k, .int .i64 i]] w fun e w' => e = .returned (.bool (Wire.right k i)) ∧ Below w.heap.size w w' := by
  go_enter Try.func29, Try.ntmps29
  go_wp2
  all_goals
    go_ret
    exact ⟨ret_bool (by simp [Wire.right, *] <;> omega), bel⟩
theorem refWright_any (k i : Int) (w : World) :
    Calls Try.prog 21 #[.agg #[.int .i64 k, .int .i64 i]] w fun e w' => e = .returned (.bool (Wire.right k i)) ∧ Below w.heap.size w w' := by
  go_enter Try.func21, Try.ntmps21
  go_wp2
  all_goals
    go_ret
    exact ⟨ret_bool (by simp [Wire.right, *] <;> omega), bel⟩

theorem sum_list (l : List UInt8) (w : World) (hs : l.length ≤ maxLen) :
    Calls Try.prog 28 #[.string ⟨l.toArray⟩] w fun e w' => e = .returned (.int .u32 (Crc.sum l : Nat)) ∧ w = w' :=
  sum_any ⟨l.toArray⟩ w (by simpa [ByteArray.size] using hs)
theorem refSum_list (l : List UInt8) (w : World) (hs : l.length ≤ maxLen) :
    Calls Try.prog 23 #[.string ⟨l.toArray⟩] w fun e w' => e = .returned (.int .u32 (Crc.sum l : Nat)) ∧ w = w' :=
  refSum_any ⟨l.toArray⟩ w (by simpa [ByteArray.size] using hs)

theorem refPut_right (k : Int) (i : Nat) (h : Wire.right k i = true) (w : World) :
    Calls Try.prog 14 #[.agg #[.int .i64 k, .int .i64 i]] w fun e w' => e = .returned (.string ⟨(Wire.bytes k.toNat i).toArray⟩) ∧ Below w.heap.size w w' := by
  obtain ⟨hk, h0, h8⟩ := Wire.right_spec.1 h
  have H := Lib.hid h
  clear h
  have hcv := fun (w : World) (c : Nat) => Crc.conv_list (P := Try.prog) w 42 9 5 Try.underlying42 Try.underlying5 Try.underlying9 (Wire.head k.toNat i) #[.int .u8 216, .int .u8 k, .int .u8 i] (by simp [Wire.head]; omega) 3 c rfl
  have hs := Crc.sum_lt (Wire.head k.toNat i)
  rcases hk with rfl | rfl
  all_goals
    go_enter Try.func14, Try.ntmps14
    go_wp2_with fail
    refine (refWright_any _ _ _).mono ?_; rintro e w1 ⟨rfl, hb⟩; obtain ⟨hc, hf, hz⟩ := bcall hb; (try simp only [World.size_alloc, World.heap_drewN] at hz)
    rw [H.out]
    go_wp2_with fail
    refine (refSum_list _ _ (by simp [Wire.head, maxLen])).mono ?_; rintro e w' ⟨rfl, rfl⟩
    go_wp2_with fail
    refine (refFour_below _ hs _).mono ?_; rintro e w1 ⟨rfl, hb⟩; obtain ⟨hc, hf, hz⟩ := bcall hb; (try simp only [World.size_alloc, World.heap_drewN] at hz)
    go_wp2
    go_ret
    exact ⟨rfl, bel⟩
theorem refPut_noise (i : Int) (w : World) :
    Calls Try.prog 14 #[.agg #[.int .i64 3, .int .i64 i]] w fun e w' => e = .returned (.string ⟨#[0]⟩) ∧ Below w.heap.size w w' := by
  have hcv := Crc.conv_list (P := Try.prog) (w.alloc (.cells #[.int .i64 3, .int .i64 i] 35)) 42 9 5 Try.underlying42 Try.underlying5 Try.underlying9 [0] #[.int .u8 0] (by simp) 1 1 rfl
  simp only [World.size_alloc] at hcv
  go_enter Try.func14, Try.ntmps14
  go_wp2
  go_ret
  exact ⟨rfl, bel⟩
theorem refPut_none (k i : Int) (h : (k == 3) = false) (h2 : Wire.right k i = false) (w : World) :
    Calls Try.prog 14 #[.agg #[.int .i64 k, .int .i64 i]] w fun e w' => e = .returned (.string ⟨#[]⟩) ∧ Below w.heap.size w w' := by
  have H := Lib.hid h2
  clear h2
  go_enter Try.func14, Try.ntmps14
  go_wp2_with fail
  refine (refWright_any _ _ _).mono ?_; rintro e w1 ⟨rfl, hb⟩; obtain ⟨hc, hf, hz⟩ := bcall hb; (try simp only [World.size_alloc, World.heap_drewN] at hz)
  rw [H.out]
  go_wp2
  go_ret
  exact ⟨rfl, bel⟩
theorem refPut_any (k i : Int) (w : World) :
    Calls Try.prog 14 #[.agg #[.int .i64 k, .int .i64 i]] w fun e w' => e = .returned (.string ⟨(Wire.put k i).toArray⟩) ∧ Below w.heap.size w w' := by
  by_cases h : k = 3
  · rw [Wire.put_noise h]; subst h; exact refPut_noise i w
  · by_cases h2 : Wire.right k i = true
    · rw [Wire.put_yes h2]
      have h3 := (Wire.right_spec.1 h2).2.1
      obtain ⟨n, rfl⟩ := Int.eq_ofNat_of_zero_le h3
      exact refPut_right k n h2 w
    · have h3 : Wire.right k i = false := by simpa using h2
      rw [Wire.put_no h3 h]
      exact refPut_none k i (by simpa using h) h3 w
end Go.Proofs.Ythdieladjnneoaa
