
import Derived.Test.YthdieladjnneoaaRows
import Derived.Test.YthdieladjnneoaaCrcB
import Derived.Test.YthdieladjnneoaaKit
import Derived.WalkKit
import Derived.WalkLawsBesides
import Derived.WalkSpells
import Derived.Outline
import Derived.Lib.Hide
import Derived.Deep.QuietTactic
import Derived.BigQuiet
namespace Go.Proofs.Ythdieladjnneoaa
set_option linter.unusedVariables false
set_option linter.unusedSimpArgs false
open Go.ChangeShapes Go.WideShapes Go.RowKit

theorem refFour_below (n : Nat) (hn : n < 4294967296) (w : World) :
    Calls Try.prog 22 #[.int .u32 n] w fun e w' => e = .returned (.string ⟨(Crc.four n).toArray⟩) ∧ Below w.heap.size w w' :=
  (refFour_any n hn w).mono fun e w' ⟨he, o, hw⟩ => ⟨he, by subst hw; exact kalloc (Below.refl _ _) _⟩
theorem val_lit (w : World) :
    Calls Try.prog 27 #[.string ⟨#[203, 244, 57, 38]⟩] w fun e w' => e = .returned (.tuple #[.int .u32 3421780262, .bool true]) ∧ ∃ n, w' = w.drewN n :=
  val_yes ⟨#[203, 244, 57, 38]⟩ w (by decide +kernel) (by decide +kernel)
theorem sum_lit (w : World) :
    Calls Try.prog 28 #[.string ⟨#[49, 50, 51, 52, 53, 54, 55, 56, 57]⟩] w fun e w' => e = .returned (.int .u32 3421780262) ∧ w = w' := by
  have h := sum_any ⟨#[49, 50, 51, 52, 53, 54, 55, 56, 57]⟩ w (by decide +kernel)
  have e : Crc.sum (ByteArray.mk #[49, 50, 51, 52, 53, 54, 55, 56, 57]).data.toList = 3421780262 := by decide +kernel
  rw [e] at h
  exact h
end Go.Proofs.Ythdieladjnneoaa
