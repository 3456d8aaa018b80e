import Derived.Test.YtamgpfhljbaaiaaRows
import Derived.Test.YtamgpfhljbaaiaaCrcC
import Derived.Test.YtamgpfhljbaaiaaKit
import Derived.WalkKit
import Derived.WalkLawsBesides
import Derived.WalkSpells
import Derived.Outline
import Derived.Lib.Hide
import Derived.Deep.QuietTactic
import Derived.BigQuiet
namespace Go.Proofs.Ytamgpfhljbaaiaa
set_option linter.unusedVariables false
open Go.ChangeShapes Go.WideShapes Go.RowKit

theorem tells_big (s : ByteArray) (r b : Nat) (h : decide ((300 : Int) < s.size) = true) (w : World) :
    Calls Try.prog 3 #[.string s, .int .u32 r, .int .u8 b] w fun e w' => e = .returned (.bool true) ∧ Below w.heap.size w w' := by
  go_enter Try.func3, Try.ntmps3
  go_wp2_with (go_at_call 6; refine (awake_any _).mono ?_; rintro e w' ⟨rfl, o, n, rfl⟩)
  go_ret
  exact ⟨rfl, kept_aw _ _ _⟩

set_option maxHeartbeats 400000 in
theorem tells_no (s : ByteArray) (r b : Nat) (hs : s.size ≤ maxLen) (hr : r < 4294967296) (hb : b < 256) (h : decide ((300 : Int) < s.size) = false) (hn : ((s.size : Int) != 4) = true) (w : World) :
    Calls Try.prog 3 #[.string s, .int .u32 r, .int .u8 b] w fun e w' => e = .returned (.bool true) ∧ Below w.heap.size w w' := by
  go_enter Try.func3, Try.ntmps3
  go_wp2_with fail
  refine (val_no _ _ hs hn).mono ?_
  rintro e w' ⟨rfl, rfl⟩
  go_wp2_with fail
  refine (refVal_no _ _ hs hn).mono ?_
  rintro e w' ⟨rfl, rfl⟩
  go_wp2_with fail
  refine (awake_any _).mono ?_
  rintro e w' ⟨rfl, o, n, rfl⟩
  go_wp2_with fail
  refine (sum_any _ _ hs).mono ?_
  rintro e w' ⟨rfl, rfl⟩
  go_wp2_with fail
  refine (refSum_any _ _ hs).mono ?_
  rintro e w' ⟨rfl, rfl⟩
  go_wp2_with fail
  refine (add_any _ _ hr hb _).mono ?_
  rintro e w' ⟨rfl, rfl⟩
  go_wp2_with fail
  refine (refAdd_any _ _ hr hb _).mono ?_
  rintro e w' ⟨rfl, rfl⟩
  go_wp2_with fail
  refine (four_any _ hr _).mono ?_
  rintro e w' ⟨rfl, o2, rfl⟩
  go_wp2_with fail
  refine (refFour_any _ hr _).mono ?_
  rintro e w' ⟨rfl, o3, rfl⟩
  go_wp2_with fail
  go_ret
  exact ⟨rfl, by repeat (first | exact Below.refl _ _ | apply kalloc | apply kept_drewN)⟩
set_option maxHeartbeats 400000 in
theorem tells_yes (s : ByteArray) (r b : Nat) (hs : s.size ≤ maxLen) (hr : r < 4294967296) (hb : b < 256) (h : decide ((300 : Int) < s.size) = false) (hn : ((s.size : Int) != 4) = false) (h3 : 3 < s.size) (w : World) :
    Calls Try.prog 3 #[.string s, .int .u32 r, .int .u8 b] w fun e w' => e = .returned (.bool true) ∧ Below w.heap.size w w' := by
  go_enter Try.func3, Try.ntmps3
  go_wp2_with fail
  refine (val_yes _ _ hn h3).mono ?_
  rintro e w' ⟨rfl, n1, rfl⟩
  go_wp2_with fail
  refine (refVal_yes _ _ hn h3).mono ?_
  rintro e w' ⟨rfl, rfl⟩
  go_wp2_with fail
  refine (awake_any _).mono ?_
  rintro e w' ⟨rfl, o, n, rfl⟩
  go_wp2_with fail
  refine (sum_any _ _ hs).mono ?_
  rintro e w' ⟨rfl, rfl⟩
  go_wp2_with fail
  refine (refSum_any _ _ hs).mono ?_
  rintro e w' ⟨rfl, rfl⟩
  go_wp2_with fail
  refine (add_any _ _ hr hb _).mono ?_
  rintro e w' ⟨rfl, rfl⟩
  go_wp2_with fail
  refine (refAdd_any _ _ hr hb _).mono ?_
  rintro e w' ⟨rfl, rfl⟩
  go_wp2_with fail
  refine (four_any _ hr _).mono ?_
  rintro e w' ⟨rfl, o2, rfl⟩
  go_wp2_with fail
  refine (refFour_any _ hr _).mono ?_
  rintro e w' ⟨rfl, o3, rfl⟩
  go_wp2_with fail
  go_ret
  exact ⟨rfl, by repeat (first | exact Below.refl _ _ | apply kalloc | apply kept_drewN)⟩
theorem crcTells_walk (s : ByteArray) (hs : s.size ≤ maxLen) (r : Nat) (hr : r < 4294967296) (b : Nat) (hb : b < 256) (w : World) :
    Calls Try.prog 3 #[.string s, .int .u32 r, .int .u8 b] w fun e w' => e = .returned (.bool true) ∧ Below w.heap.size w w' := by
  by_cases h : decide ((300 : Int) < s.size) = true
  · exact tells_big s r b h w
  · have h0 : decide ((300 : Int) < s.size) = false := by simpa using h
    by_cases hn : ((s.size : Int) != 4) = true
    · exact tells_no s r b hs hr hb h0 hn w
    · have hn0 : ((s.size : Int) != 4) = false := by simpa using hn
      exact tells_yes s r b hs hr hb h0 hn0 (by have := Crc.size4 hn0; omega) w
end Go.Proofs.Ytamgpfhljbaaiaa
