import Derived.Test.YtamgpfhljbaaiaaRows
import Derived.Test.YtamgpfhljbaaiaaCrcB
import Derived.Test.YtamgpfhljbaaiaaKit
import Derived.WalkKit
import Derived.WalkLawsBesides
import Derived.WalkSpells
import Derived.Outline
import Derived.Lib.Hide
import Derived.Deep.QuietTactic
import Derived.BigQuiet
namespace Go.Proofs.Ytamgpfhljbaaiaa
set_option linter.unusedVariables false
open Go.ChangeShapes Go.WideShapes Go.RowKit

theorem four_lit (w : World) :
    Calls Try.prog 13 #[.int .u32 3421780262] w fun e w' => e = .returned (.string ⟨#[203, 244, 57, 38]⟩) ∧ ∃ o, w.alloc o = w' := by
  have h := four_any 3421780262 (by decide) w
  have e : Crc.four 3421780262 = [203, 244, 57, 38] := by decide +kernel
  rw [e] at h
  exact h
theorem val_lit (w : World) :
    Calls Try.prog 7 #[.string ⟨#[203, 244, 57, 38]⟩] w fun e w' => e = .returned (.tuple #[.int .u32 3421780262, .bool true]) ∧ ∃ n, w' = w.drewN n :=
  val_yes ⟨#[203, 244, 57, 38]⟩ w (by decide +kernel) (by decide +kernel)
theorem sum_lit (w : World) :
    Calls Try.prog 9 #[.string ⟨#[49, 50, 51, 52, 53, 54, 55, 56, 57]⟩] w fun e w' => e = .returned (.int .u32 3421780262) ∧ w = w' := by
  have h := sum_any ⟨#[49, 50, 51, 52, 53, 54, 55, 56, 57]⟩ w (by decide +kernel)
  have e : Crc.sum (ByteArray.mk #[49, 50, 51, 52, 53, 54, 55, 56, 57]).data.toList = 3421780262 := by decide +kernel
  rw [e] at h
  exact h
theorem awake_any (w : World) :
    Calls Try.prog 6 #[] w fun e w' => e = .returned (.bool true) ∧ ∃ o n, (w.alloc o).drewN n = w' := by
  go_enter Try.func6, Try.ntmps6
  go_wp2_with fail
  refine (four_lit _).mono ?_
  rintro e w' ⟨rfl, o, rfl⟩
  go_wp2_with fail
  refine (val_lit _).mono ?_
  rintro e w' ⟨rfl, n, rfl⟩
  go_wp2_with fail
  refine (sum_lit _).mono ?_
  rintro e w' ⟨rfl, rfl⟩
  go_wp2
  go_ret
  exact ⟨rfl, _, _, rfl⟩

set_option maxHeartbeats 400000 in
theorem joins_small (s t : ByteArray) (hs : s.size ≤ maxLen) (ht : t.size ≤ maxLen) (h1 : decide ((300 : Int) < s.size) = false) (h2 : decide ((300 : Int) < t.size) = false) (w : World) :
    Calls Try.prog 5 #[.string s, .string t] w fun e w' => e = .returned (.bool true) ∧ ∃ o n, (w.alloc o).drewN n = w' := by
  have l1 := Crc.reg_lt s.data.toList (r := 4294967295) (by omega)
  have HS : Hid (Crc.sum s.data.toList = 4294967295 - Crc.reg 4294967295 s.data.toList) := rfl
  unfold maxLen at hs ht
  have g1 : s.size ≤ 300 := by have := of_decide_eq_false h1; omega
  have g2 : t.size ≤ 300 := by have := of_decide_eq_false h2; omega
  generalize hr0 : Crc.reg 4294967295 s.data.toList = r0 at *
  have HR0 := Lib.hid hr0
  clear hr0
  go_enter Try.func5, Try.ntmps5
  go_wp2_with fail
  refine (sum_any _ _ (by unfold maxLen; omega)).mono ?_
  rw [HS.out]
  rintro e w' ⟨rfl, rfl⟩
  go_wp2_with fail
  have ea : (4294967295 : Int) - ((4294967295 - r0 : Nat) : Int) = (r0 : Int) := by omega
  rw [ea]
  clear ea
  go_loop [5, 6] (fun r i => ∃ k : Nat, k ≤ t.size ∧ i = .int .i64 k ∧ r = .int .u32 (Crc.reg r0 (t.data.toList.take k) : Nat)) (fun _ i => t.size - (intOf i).toNat)
  case atStart => exact ⟨0, by omega, rfl, rfl⟩
  case round =>
    obtain ⟨k, hk, rfl, rfl⟩ := hrel
    have hl := Crc.reg_lt (t.data.toList.take k) l1
    by_cases hlt : k < t.size
    · have HE := Lib.hid (Crc.reg_take r0 t k hlt)
      generalize Crc.reg r0 (t.data.toList.take k) = x at *
      go_wp2_with (go_at_call 11; refine (add_any _ _ (by omega) (by exact UInt8.toNat_lt _) _).mono ?_; rintro e w' ⟨rfl, rfl⟩)
      go_round
      case rel => exact ⟨k + 1, by omega, by go_num, by rw [HE.out]⟩
      case measure => simp [intOf]; omega
    · have HE : Hid (Crc.sum (s ++ t).data.toList = 4294967295 - Crc.reg r0 (t.data.toList.take k)) := by
        rw [Crc.take_all t k (by omega), ← HR0.out]; exact Crc.sum_join s t
      generalize Crc.reg r0 (t.data.toList.take k) = x at *
      go_wp2_with fail
      refine (awake_any _).mono ?_
      rintro e w' ⟨rfl, o, n, rfl⟩
      go_wp2_with fail
      refine (sum_any _ _ (by unfold maxLen; simp; omega)).mono ?_
      rw [HE.out]
      rintro e w' ⟨rfl, rfl⟩
      go_wp2_with fail
      go_ret
      exact ⟨ret_bool (by rw [beq_iff_eq]; omega), _, _, rfl⟩
theorem joins_big (s t : ByteArray) (h : decide ((300 : Int) < s.size) = true ∨ decide ((300 : Int) < t.size) = true) (w : World) :
    Calls Try.prog 5 #[.string s, .string t] w fun e w' => e = .returned (.bool true) ∧ ∃ o n, (w.alloc o).drewN n = w' := by
  by_cases h1 : decide ((300 : Int) < s.size) = true
  · clear h
    go_enter Try.func5, Try.ntmps5
    go_wp2_with (go_at_call 6; refine (awake_any _).mono ?_; rintro e w' ⟨rfl, o, n, rfl⟩)
    go_ret
    exact ⟨rfl, _, _, rfl⟩
  · have h2 : decide ((300 : Int) < t.size) = true := h.resolve_left h1
    have h1 : decide ((300 : Int) < s.size) = false := by simpa using h1
    clear h
    go_enter Try.func5, Try.ntmps5
    go_wp2_with (go_at_call 6; refine (awake_any _).mono ?_; rintro e w' ⟨rfl, o, n, rfl⟩)
    go_ret
    exact ⟨rfl, _, _, rfl⟩
theorem crcJoins_walk (s : ByteArray) (hs : s.size ≤ maxLen) (t : ByteArray) (ht : t.size ≤ maxLen) (w : World) :
    Calls Try.prog 5 #[.string s, .string t] w fun e w' => e = .returned (.bool true) ∧ Below w.heap.size w w' := by
  by_cases h1 : decide ((300 : Int) < s.size) = true
  · exact (joins_big s t (.inl h1) w).mono fun e w' ⟨he, o, n, hw⟩ => ⟨he, hw ▸ kept_aw w o n⟩
  · by_cases h2 : decide ((300 : Int) < t.size) = true
    · exact (joins_big s t (.inr h2) w).mono fun e w' ⟨he, o, n, hw⟩ => ⟨he, hw ▸ kept_aw w o n⟩
    · exact (joins_small s t hs ht (by simpa using h1) (by simpa using h2) w).mono fun e w' ⟨he, o, n, hw⟩ => ⟨he, hw ▸ kept_aw w o n⟩
end Go.Proofs.Ytamgpfhljbaaiaa
