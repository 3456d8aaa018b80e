
import Derived.Test.YtjkdmnodamcjnaaRows
import Derived.Test.YtjkdmnodamcjnaaKit
import Derived.Test.YtjkdmnodamcjnaaConfA
import Derived.Test.YtjkdmnodamcjnaaHear0
import Derived.LoopN
import Derived.LoopTactic
import Derived.Deep.QuietTactic
import Derived.BigQuiet
import Derived.RegionTactic
namespace Go.Proofs.Ytjkdmnodamcjnaa
set_option linter.unusedVariables false
set_option linter.unusedSimpArgs false
open Go.ChangeShapes Go.WideShapes Go.RowKit

theorem two_at0 (a b c d : Value) (w : World) : (Instr.index 26 (.agg #[a, b, c, d]) (.int .i64 0)).run Try.prog w = .ok (.agg #[a, b]) w := by kernel_rfl
theorem two_at1 (a b c d : Value) (w : World) : (Instr.index 26 (.agg #[a, b, c, d]) (.int .i64 1)).run Try.prog w = .ok (.agg #[c, d]) w := by kernel_rfl
attribute [local go_sem] two_at0 two_at1

theorem infoC_any (k i : Int) (w : World) :
    Calls Try.prog 59 #[.agg #[.int .i64 k, .int .i64 i]] w fun e w' => e = .returned (.bool (Hear.isInfo k)) ∧ Below w.heap.size w w' := by
  go_enter Try.func59, Try.ntmps59
  go_wp2
  go_ret
  exact ⟨rfl, bel⟩
theorem otherC_any (k i x : Int) (b : Nat) (w : World) (hb : b < w.heap.size) (hx : w.cell? ⟨b, 0, none⟩ = some (.int .i64 x)) :
    Calls Try.prog 60 #[.agg #[.int .i64 k, .int .i64 i], .pointer (some ⟨b, 0, none⟩)] w fun e w' => e = .returned (.bool (Hear.isOther x k i)) ∧ Below w.heap.size w w' := by
  go_enter Try.func60, Try.ntmps60
  go_wp2
  all_goals
    go_ret
    exact ⟨ret_bool (by simp [Hear.isOther, *]), bel⟩
theorem wrongC_any (k i x : Int) (b : Nat) (w : World) (hb : b < w.heap.size) (hx : w.cell? ⟨b, 0, none⟩ = some (.int .i64 x)) :
    Calls Try.prog 62 #[.agg #[.int .i64 k, .int .i64 i], .pointer (some ⟨b, 0, none⟩)] w fun e w' => e = .returned (.bool (Hear.isWrong x k i)) ∧ Below w.heap.size w w' := by
  go_enter Try.func62, Try.ntmps62
  go_wp2
  all_goals
    go_ret
    exact ⟨ret_bool (by simp [Hear.isWrong, *]), bel⟩
theorem matchC_any (k i x : Int) (b : Nat) (w : World) (hb : b < w.heap.size) (hx : w.cell? ⟨b, 0, none⟩ = some (.int .i64 x)) :
    Calls Try.prog 63 #[.agg #[.int .i64 k, .int .i64 i], .pointer (some ⟨b, 0, none⟩)] w fun e w' => e = .returned (.bool (Hear.isMatch x k i)) ∧ Below w.heap.size w w' := by
  go_enter Try.func63, Try.ntmps63
  go_wp2
  all_goals
    go_ret
    exact ⟨ret_bool (by simp [Hear.isMatch, *]), bel⟩
/-- What is asked of a function that is handed in: it answers 'b' for a frame, wherever old memory is as it was. -/
def Hear.Says (W : World) (fn : Nat) (cap : Array Value) (k i : Int) (b : Bool) : Prop :=
  ∀ w, Below W.heap.size W w → Calls Try.prog fn (#[.agg #[.int .i64 k, .int .i64 i]] ++ cap) w fun e w' => e = .returned (.bool b) ∧ Below w.heap.size w w'
set_option maxHeartbeats 1000000 in
theorem first_any (fn : Nat) (cap : Array Value) (k0 i0 k1 i1 : Int) (b0 b1 : Bool) (w : World) (he : ∀ (args : Array Value) (w : World), (callFunc fn args).run Try.prog w = .ok (.enter fn args) w) (h0 : Hear.Says w fn cap k0 i0 b0) (h1 : Hear.Says w fn cap k1 i1 b1) :
    Calls Try.prog 58 #[.agg #[.int .i64 k0, .int .i64 i0, .int .i64 k1, .int .i64 i1], .func (.func fn) #[] cap] w fun e w' => e = .returned (.tuple #[.int .i64 (Hear.firstI b0 b1 i0 i1), .bool (b0 || b1)]) ∧ Below w.heap.size w w' := by
  have C0 := Lib.hid h0
  have C1 := Lib.hid h1
  clear h0 h1
  go_enter Try.func58, Try.ntmps58
  go_wp2_with fail
  refine wp_loop_rounds 3 ?_
  rw [rounds_succ]
  go_wp2_with fail
  refine (C0.out _ bel).mono ?_; rintro e w1 ⟨rfl, hb⟩; have hz := hb.size; (try simp only [World.size_alloc, World.heap_drewN, World.size_drew, World.size_setCell] at hz)
  have z_ra : (w.heap.size + 1) < w1.heap.size := (by omega); replace ra : w1.rangeAt (w.heap.size + 1) 0 [.int .i64 k0, .int .i64 i0] := rng
  have HB1 := Lib.hid (show Below w.heap.size w w1 from bel)
  clear hb
  have ra_0 := range_cell ra 0 rfl
  have ra_1 := range_cell ra 1 rfl
  cases b0
  · go_wp2_with fail
    rw [rounds_succ]
    go_wp2_with fail
    have hB1 := HB1.out; refine (C1.out _ bel).mono ?_; rintro e w2 ⟨rfl, hb⟩; have hz := hb.size; (try simp only [World.size_alloc, World.heap_drewN, World.size_drew, World.size_setCell] at hz)
    have z_rb : (w1.heap.size) < w2.heap.size := (by omega); replace rb : w2.rangeAt (w1.heap.size) 0 [.int .i64 k1, .int .i64 i1] := rng
    have HB2 := Lib.hid (show Below w.heap.size w w2 from by have := HB1.out; exact bel)
    clear hb
    have rb_0 := range_cell rb 0 rfl
    have rb_1 := range_cell rb 1 rfl
    cases b1
    · go_wp2_with fail
      rw [rounds_succ]
      go_wp2
      go_ret2
      exact ⟨rfl, HB2.out⟩
    · go_wp2
      go_ret2
      exact ⟨rfl, HB2.out⟩
  · go_wp2
    go_ret2
    exact ⟨rfl, HB1.out⟩
end Go.Proofs.Ytjkdmnodamcjnaa
