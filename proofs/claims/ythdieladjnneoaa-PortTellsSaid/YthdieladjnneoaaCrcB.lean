
import Derived.Test.YthdieladjnneoaaRows
import Derived.Test.YthdieladjnneoaaCrcA
import Derived.WalkKit
import Derived.WalkLawsBesides
import Derived.WalkSpells
import Derived.Outline
import Derived.Lib.Hide
import Derived.Deep.QuietTactic
import Derived.BigQuiet
namespace Go.Proofs.Ythdieladjnneoaa
set_option linter.unusedVariables false
set_option linter.unusedSimpArgs false
open Go.ChangeShapes Go.WideShapes Go.RowKit

theorem refFour_any (n : Nat) (hn : n < 4294967296) (w : World) :
    Calls Try.prog 22 #[.int .u32 n] w fun e w' => e = .returned (.string ⟨(Crc.four n).toArray⟩) ∧ ∃ o, w.alloc o = w' := by
  have hcv := fun c => Crc.conv_list (P := Try.prog) w 42 9 5 Try.underlying42 Try.underlying5 Try.underlying9 (Crc.four n) _ (Crc.four_cells n hn) 4 c rfl
  go_enter Try.func22, Try.ntmps22
  go_wp2
  go_ret
  exact ⟨rfl, _, rfl⟩
theorem val_no (s : ByteArray) (w : World) (hs : s.size ≤ maxLen) (hn : ((s.size : Int) != 4) = true) :
    Calls Try.prog 27 #[.string s] w fun e w' => e = .returned (.tuple #[.int .u32 0, .bool false]) ∧ w = w' := by
  go_enter Try.func27, Try.ntmps27
  go_wp2
  go_ret2
  exact ⟨rfl, rfl⟩
theorem val_yes (s : ByteArray) (w : World) (hn : ((s.size : Int) != 4) = false) (h3 : 3 < s.size) :
    Calls Try.prog 27 #[.string s] w fun e w' => e = .returned (.tuple #[.int .u32 (Crc.val s[0].toNat s[1].toNat s[2].toNat s[3].toNat : Nat), .bool true]) ∧ ∃ n, w' = w.drewN n := by
  have n0 : 0 < s.size := by omega
  have i1 : (1 : Int) < s.size := by omega
  have i2 : (2 : Int) < s.size := by omega
  have i3 : (3 : Int) < s.size := by omega
  have b0 : s[0].toNat < 256 := s[0].toNat_lt
  have b1 : s[1].toNat < 256 := s[1].toNat_lt
  have b2 : s[2].toNat < 256 := s[2].toNat_lt
  have b3 : s[3].toNat < 256 := s[3].toNat_lt
  have w0 : IntKind.u32.wrap (s[0].toNat : Int) = s[0].toNat := Crc.wrap_in (by omega) (by omega)
  have w1 : IntKind.u32.wrap (s[1].toNat : Int) = s[1].toNat := Crc.wrap_in (by omega) (by omega)
  have w2 : IntKind.u32.wrap (s[2].toNat : Int) = s[2].toNat := Crc.wrap_in (by omega) (by omega)
  have w3 : IntKind.u32.wrap (s[3].toNat : Int) = s[3].toNat := Crc.wrap_in (by omega) (by omega)
  have v0 : IntKind.u32.wrap ((s[0].toNat : Int) * 16777216) = (s[0].toNat : Int) * 16777216 := Crc.wrap_in (by omega) (by omega)
  have v1 : IntKind.u32.wrap ((s[1].toNat : Int) * 65536) = (s[1].toNat : Int) * 65536 := Crc.wrap_in (by omega) (by omega)
  have v2 : IntKind.u32.wrap ((s[2].toNat : Int) * 256) = (s[2].toNat : Int) * 256 := Crc.wrap_in (by omega) (by omega)
  have o1 := Crc.or1 b0 b1
  have o2 := Crc.or2 b0 b1 b2
  have o3 := Crc.or3 b0 b1 b2 b3
  go_enter Try.func27, Try.ntmps27
  go_wp2
  go_quiet (fail)
  go_wp2
  go_ret2
  exact ⟨rfl, _, rfl⟩
end Go.Proofs.Ythdieladjnneoaa
