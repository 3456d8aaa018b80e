
import Derived.Test.YthdieladjnneoaaRows
import Derived.Test.YthdieladjnneoaaCrc0
import Derived.Test.YthdieladjnneoaaKit
import Derived.WalkKit
import Derived.WalkLawsBesides
import Derived.WalkSpells
import Derived.Outline
import Derived.Lib.Hide
namespace Go.Proofs.Ythdieladjnneoaa
set_option linter.unusedVariables false
set_option linter.unusedSimpArgs false
open Go.ChangeShapes Go.WideShapes Go.RowKit

set_option maxHeartbeats 400000 in
theorem add_any (r b : Nat) (hr : r < 4294967296) (hb : b < 256) (w : World) :
    Calls Try.prog 30 #[.int .u32 r, .int .u8 b] w fun e w' => e = .returned (.int .u32 (Crc.add r b : Nat)) ∧ w = w' := by
  have hx := u32_xor_nat r b hr (by omega)
  have hlt := Crc.xor_lt hr (b := b) (by omega)
  go_enter Try.func30, Try.ntmps30
  go_wp2
  go_loop [0, 5, 10] (fun r5 q i => ∃ k : Nat, k ≤ 8 ∧ i = .int .i64 k ∧ r5 = .int .u32 (Crc.steps k (r ^^^ b) : Nat) ∧ (∃ z, q = z)) (fun _ _ i => 8 - (intOf i).toNat)
  case atStart => exact ⟨0, by omega, rfl, rfl, _, rfl⟩
  case round =>
    obtain ⟨k, hk, rfl, rfl, z, rfl⟩ := hrel
    have hs := Crc.steps_lt k hlt
    have hE : Hid (Crc.steps (k + 1) (r ^^^ b) = Crc.step (Crc.steps k (r ^^^ b))) := rfl
    generalize hq : Crc.steps k (r ^^^ b) = x at *
    have HQ := Lib.hid hq
    clear hq
    have ha := Crc.and_one x hs
    have hxp := Crc.xor_poly x hs
    clear hx hlt
    by_cases hlt : k < 8
    · by_cases ho : x % 2 = 1
      · go_wp2
        go_round
        case rel => exact ⟨k + 1, by omega, by go_num, by rw [hE.out, Crc.step_odd ho], _, rfl⟩
        case measure => simp [intOf]; omega
      · go_wp2
        go_round
        case rel => exact ⟨k + 1, by omega, by go_num, by rw [hE.out, Crc.step_even ho]; rfl, _, rfl⟩
        case measure => simp [intOf]; omega
    · go_wp2
      go_ret
      obtain rfl : k = 8 := by omega
      exact ⟨ret_int (by rw [← HQ.out]; rfl), rfl⟩

set_option maxHeartbeats 400000 in
theorem refAdd_any (r b : Nat) (hr : r < 4294967296) (hb : b < 256) (w : World) :
    Calls Try.prog 25 #[.int .u32 r, .int .u8 b] w fun e w' => e = .returned (.int .u32 (Crc.add r b : Nat)) ∧ w = w' := by
  have hx := u32_xor_nat r b hr (by omega)
  have hlt := Crc.xor_lt hr (b := b) (by omega)
  go_enter Try.func25, Try.ntmps25
  go_wp2
  go_loop [0, 5] (fun r5 i => ∃ k : Nat, k ≤ 8 ∧ i = .int .i64 k ∧ r5 = .int .u32 (Crc.steps k (r ^^^ b) : Nat)) (fun _ i => 8 - (intOf i).toNat)
  case atStart => exact ⟨0, by omega, rfl, rfl⟩
  case round =>
    obtain ⟨k, hk, rfl, rfl⟩ := hrel
    have hs := Crc.steps_lt k hlt
    have hE : Hid (Crc.steps (k + 1) (r ^^^ b) = Crc.step (Crc.steps k (r ^^^ b))) := rfl
    generalize hq : Crc.steps k (r ^^^ b) = x at *
    have HQ := Lib.hid hq
    clear hq
    have hxp := Crc.xor_poly x hs
    clear hx hlt
    by_cases hlt : k < 8
    · by_cases ho : x % 2 = 1
      · go_wp2
        go_round
        case rel => exact ⟨k + 1, by omega, by go_num, by rw [hE.out, Crc.step_odd ho]⟩
        case measure => simp [intOf]; omega
      · go_wp2
        go_round
        case rel => exact ⟨k + 1, by omega, by go_num, by rw [hE.out, Crc.step_even ho]; rfl⟩
        case measure => simp [intOf]; omega
    · go_wp2
      go_ret
      obtain rfl : k = 8 := by omega
      exact ⟨ret_int (by rw [← HQ.out]; rfl), rfl⟩

set_option maxHeartbeats 400000 in
theorem sum_any (s : ByteArray) (w : World) (hs : s.size ≤ maxLen) :
    Calls Try.prog 28 #[.string s] w fun e w' => e = .returned (.int .u32 (Crc.sum s.data.toList : Nat)) ∧ w = w' := by
  unfold maxLen at hs
  go_enter Try.func28, Try.ntmps28
  go_wp2
  go_loop [3, 4, 7] (fun r z i => ∃ k : Nat, k ≤ s.size ∧ i = .int .i64 k ∧ r = .int .u32 (Crc.reg 4294967295 (s.data.toList.take k) : Nat) ∧ (∃ y, z = y)) (fun _ _ i => s.size - (intOf i).toNat)
  case atStart => exact ⟨0, by omega, rfl, rfl, _, rfl⟩
  case round =>
    obtain ⟨k, hk, rfl, rfl, y, rfl⟩ := hrel
    have hl := Crc.reg_lt (s.data.toList.take k) (r := 4294967295) (by omega)
    by_cases hlt : k < s.size
    · have HE := Lib.hid (Crc.reg_take 4294967295 s k hlt)
      generalize Crc.reg 4294967295 (s.data.toList.take k) = x at *
      go_wp2_with (go_at_call 30; refine (add_any _ _ (by omega) (by exact UInt8.toNat_lt _) _).mono ?_; rintro e w' ⟨rfl, rfl⟩)
      go_round
      case rel => exact ⟨k + 1, by omega, by go_num, by rw [HE.out], _, rfl⟩
      case measure => simp [intOf]; omega
    · have HE : Hid (Crc.reg 4294967295 (s.data.toList.take k) = Crc.reg 4294967295 s.data.toList) := by rw [Crc.take_all s k (by omega)]; exact rfl
      generalize hq : Crc.reg 4294967295 (s.data.toList.take k) = x at *
      have HQ := Lib.hid hq
      clear hq
      have hn := Crc.not_u32 x hl
      go_wp2
      go_ret
      exact ⟨ret_int (by rw [HE.out]; rfl), rfl⟩

set_option maxHeartbeats 400000 in
theorem refSum_any (s : ByteArray) (w : World) (hs : s.size ≤ maxLen) :
    Calls Try.prog 23 #[.string s] w fun e w' => e = .returned (.int .u32 (Crc.sum s.data.toList : Nat)) ∧ w = w' := by
  unfold maxLen at hs
  go_enter Try.func23, Try.ntmps23
  go_wp2
  go_loop [3, 4] (fun r i => ∃ k : Nat, k ≤ s.size ∧ i = .int .i64 k ∧ r = .int .u32 (Crc.reg 4294967295 (s.data.toList.take k) : Nat)) (fun _ i => s.size - (intOf i).toNat)
  case atStart => exact ⟨0, by omega, rfl, rfl⟩
  case round =>
    obtain ⟨k, hk, rfl, rfl⟩ := hrel
    have hl := Crc.reg_lt (s.data.toList.take k) (r := 4294967295) (by omega)
    by_cases hlt : k < s.size
    · have HE := Lib.hid (Crc.reg_take 4294967295 s k hlt)
      generalize Crc.reg 4294967295 (s.data.toList.take k) = x at *
      go_wp2_with (go_at_call 25; refine (refAdd_any _ _ (by omega) (by exact UInt8.toNat_lt _) _).mono ?_; rintro e w' ⟨rfl, rfl⟩)
      go_round
      case rel => exact ⟨k + 1, by omega, by go_num, by rw [HE.out]⟩
      case measure => simp [intOf]; omega
    · have HE : Hid (Crc.reg 4294967295 (s.data.toList.take k) = Crc.reg 4294967295 s.data.toList) := by rw [Crc.take_all s k (by omega)]; exact rfl
      generalize hq : Crc.reg 4294967295 (s.data.toList.take k) = x at *
      have HQ := Lib.hid hq
      clear hq
      go_wp2
      go_ret
      exact ⟨ret_int (by have h : Crc.sum s.data.toList = 4294967295 - x := by rw [HE.out]; rfl
                         omega), rfl⟩

end Go.Proofs.Ythdieladjnneoaa
