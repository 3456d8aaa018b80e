
import Derived.Test.YtjkdmnodamcjnaaRows
import Derived.Test.YtjkdmnodamcjnaaHearA
import Derived.LoopN
import Derived.LoopTactic
import Derived.Deep.QuietTactic
import Derived.BigQuiet
import Derived.RegionTactic
namespace Go.Proofs.Ytjkdmnodamcjnaa
set_option linter.unusedVariables false
set_option linter.unusedSimpArgs false
open Go.ChangeShapes Go.WideShapes Go.RowKit

theorem Hear.says_none {W : World} {fn : Nat} {k i : Int} {b : Bool} (h : ∀ w, Calls Try.prog fn #[.agg #[.int .i64 k, .int .i64 i]] w fun e w' => e = .returned (.bool b) ∧ Below w.heap.size w w') : Hear.Says W fn #[] k i b := fun w _ => h w
theorem Hear.says_cap {W : World} {fn : Nat} {x k i : Int} {b : Bool} {B : Nat} (hB : B < W.heap.size) (hx : W.cell? ⟨B, 0, none⟩ = some (.int .i64 x))
    (h : ∀ w, B < w.heap.size → w.cell? ⟨B, 0, none⟩ = some (.int .i64 x) → Calls Try.prog fn #[.agg #[.int .i64 k, .int .i64 i], .pointer (some ⟨B, 0, none⟩)] w fun e w' => e = .returned (.bool b) ∧ Below w.heap.size w w') :
    Hear.Says W fn #[.pointer (some ⟨B, 0, none⟩)] k i b := fun w hb => h w (Nat.lt_of_lt_of_le hB hb.size) (by rw [hb.cell (p := ⟨B, 0, none⟩) hB]; exact hx)

theorem info_any (k0 i0 k1 i1 : Int) (w : World) :
    Calls Try.prog 41 #[.agg #[.int .i64 k0, .int .i64 i0, .int .i64 k1, .int .i64 i1]] w fun e w' => e = .returned (.tuple #[.int .i64 (Hear.firstI (Hear.isInfo k0) (Hear.isInfo k1) i0 i1), .bool (Hear.isInfo k0 || Hear.isInfo k1)]) ∧ Below w.heap.size w w' := by
  go_enter Try.func41, Try.ntmps41
  go_wp2_with fail
  refine (first_any _ _ k0 i0 k1 i1 (Hear.isInfo k0) (Hear.isInfo k1) _ (fun _ _ => by kernel_rfl) (Hear.says_none (infoC_any k0 i0)) (Hear.says_none (infoC_any k1 i1))).mono ?_; rintro e w1 ⟨rfl, hb⟩; have hz := hb.size; (try simp only [World.size_alloc, World.heap_drewN, World.size_drew, World.size_setCell] at hz)
  go_wp2
  go_ret2
  exact ⟨rfl, bel⟩
theorem other_any (k0 i0 k1 i1 x : Int) (w : World) :
    Calls Try.prog 43 #[.agg #[.int .i64 k0, .int .i64 i0, .int .i64 k1, .int .i64 i1], .int .i64 x] w fun e w' => e = .returned (.tuple #[.int .i64 (Hear.firstI (Hear.isOther x k0 i0) (Hear.isOther x k1 i1) i0 i1), .bool (Hear.isOther x k0 i0 || Hear.isOther x k1 i1)]) ∧ Below w.heap.size w w' := by
  have hmf : ∀ (fn : Fn) (first cap : Array Value) (w : World), (Instr.makeFunc fn first cap).run Try.prog w = .ok (.func fn first cap) w := fun _ _ _ _ => rfl
  go_enter Try.func43, Try.ntmps43
  go_wp2_with fail
  refine (first_any _ _ k0 i0 k1 i1 (Hear.isOther x k0 i0) (Hear.isOther x k1 i1) _ (fun _ _ => by kernel_rfl) (Hear.says_cap (x := x) (by simp) (by simp [go_sem]) (fun w => otherC_any k0 i0 x _ w)) (Hear.says_cap (x := x) (by simp) (by simp [go_sem]) (fun w => otherC_any k1 i1 x _ w))).mono ?_; rintro e w1 ⟨rfl, hb⟩; have hz := hb.size; (try simp only [World.size_alloc, World.heap_drewN, World.size_drew, World.size_setCell] at hz)
  go_wp2
  go_ret2
  exact ⟨rfl, bel⟩
theorem wrong_any (k0 i0 k1 i1 x : Int) (w : World) :
    Calls Try.prog 46 #[.agg #[.int .i64 k0, .int .i64 i0, .int .i64 k1, .int .i64 i1], .int .i64 x] w fun e w' => e = .returned (.bool (Hear.isWrong x k0 i0 || Hear.isWrong x k1 i1)) ∧ Below w.heap.size w w' := by
  have hmf : ∀ (fn : Fn) (first cap : Array Value) (w : World), (Instr.makeFunc fn first cap).run Try.prog w = .ok (.func fn first cap) w := fun _ _ _ _ => rfl
  go_enter Try.func46, Try.ntmps46
  go_wp2_with fail
  refine (first_any _ _ k0 i0 k1 i1 (Hear.isWrong x k0 i0) (Hear.isWrong x k1 i1) _ (fun _ _ => by kernel_rfl) (Hear.says_cap (x := x) (by simp) (by simp [go_sem]) (fun w => wrongC_any k0 i0 x _ w)) (Hear.says_cap (x := x) (by simp) (by simp [go_sem]) (fun w => wrongC_any k1 i1 x _ w))).mono ?_; rintro e w1 ⟨rfl, hb⟩; have hz := hb.size; (try simp only [World.size_alloc, World.heap_drewN, World.size_drew, World.size_setCell] at hz)
  go_wp2
  go_ret
  exact ⟨rfl, bel⟩
theorem match_any (k0 i0 k1 i1 x : Int) (w : World) :
    Calls Try.prog 48 #[.agg #[.int .i64 k0, .int .i64 i0, .int .i64 k1, .int .i64 i1], .int .i64 x] w fun e w' => e = .returned (.bool (Hear.isMatch x k0 i0 || Hear.isMatch x k1 i1)) ∧ Below w.heap.size w w' := by
  have hmf : ∀ (fn : Fn) (first cap : Array Value) (w : World), (Instr.makeFunc fn first cap).run Try.prog w = .ok (.func fn first cap) w := fun _ _ _ _ => rfl
  go_enter Try.func48, Try.ntmps48
  go_wp2_with fail
  refine (first_any _ _ k0 i0 k1 i1 (Hear.isMatch x k0 i0) (Hear.isMatch x k1 i1) _ (fun _ _ => by kernel_rfl) (Hear.says_cap (x := x) (by simp) (by simp [go_sem]) (fun w => matchC_any k0 i0 x _ w)) (Hear.says_cap (x := x) (by simp) (by simp [go_sem]) (fun w => matchC_any k1 i1 x _ w))).mono ?_; rintro e w1 ⟨rfl, hb⟩; have hz := hb.size; (try simp only [World.size_alloc, World.heap_drewN, World.size_drew, World.size_setCell] at hz)
  go_wp2
  go_ret
  exact ⟨rfl, bel⟩
/-! The document's. -/
theorem refInfo_any (k0 i0 k1 i1 : Int) (w : World) :
    Calls Try.prog 18 #[.agg #[.int .i64 k0, .int .i64 i0, .int .i64 k1, .int .i64 i1]] w fun e w' => e = .returned (.tuple #[.int .i64 (Hear.firstI (Hear.isInfo k0) (Hear.isInfo k1) i0 i1), .bool (Hear.isInfo k0 || Hear.isInfo k1)]) ∧ Below w.heap.size w w' := by
  go_enter Try.func18, Try.ntmps18
  go_wp2_with fail
  refine wp_loop_rounds 3 ?_
  rw [rounds_succ]
  go_wp2_with fail
  all_goals first | (go_ret2; exact ⟨by first | rfl | (simp [Hear.firstI, Hear.isInfo, *]; done) | (simp_all [Hear.firstI, Hear.isInfo]; done), bel⟩) | (rw [rounds_succ]; go_wp2_with fail; all_goals first | (go_ret2; exact ⟨by first | rfl | (simp [Hear.firstI, Hear.isInfo, *]; done) | (simp_all [Hear.firstI, Hear.isInfo]; done), bel⟩) | (rw [rounds_succ]; go_wp2; (go_ret2; exact ⟨by first | rfl | (simp [Hear.firstI, Hear.isInfo, *]; done) | (simp_all [Hear.firstI, Hear.isInfo]; done), bel⟩)))
set_option maxHeartbeats 1000000 in
theorem refOther_any (k0 i0 k1 i1 x : Int) (w : World) :
    Calls Try.prog 19 #[.agg #[.int .i64 k0, .int .i64 i0, .int .i64 k1, .int .i64 i1], .int .i64 x] w fun e w' => e = .returned (.tuple #[.int .i64 (Hear.firstI (Hear.isOther x k0 i0) (Hear.isOther x k1 i1) i0 i1), .bool (Hear.isOther x k0 i0 || Hear.isOther x k1 i1)]) ∧ Below w.heap.size w w' := by
  go_enter Try.func19, Try.ntmps19
  go_wp2_with fail
  refine wp_loop_rounds 3 ?_
  rw [rounds_succ]
  go_wp2_with fail
  all_goals first | (go_ret2; exact ⟨by first | rfl | (simp [Hear.firstI, Hear.isOther, *]; done) | (simp_all [Hear.firstI, Hear.isOther]; done), bel⟩) | (rw [rounds_succ]; go_wp2_with fail; all_goals first | (go_ret2; exact ⟨by first | rfl | (simp [Hear.firstI, Hear.isOther, *]; done) | (simp_all [Hear.firstI, Hear.isOther]; done), bel⟩) | (rw [rounds_succ]; go_wp2; (go_ret2; exact ⟨by first | rfl | (simp [Hear.firstI, Hear.isOther, *]; done) | (simp_all [Hear.firstI, Hear.isOther]; done), bel⟩)))
theorem refWrong_any (k0 i0 k1 i1 x : Int) (w : World) :
    Calls Try.prog 29 #[.agg #[.int .i64 k0, .int .i64 i0, .int .i64 k1, .int .i64 i1], .int .i64 x] w fun e w' => e = .returned (.bool (Hear.isWrong x k0 i0 || Hear.isWrong x k1 i1)) ∧ Below w.heap.size w w' := by
  go_enter Try.func29, Try.ntmps29
  go_wp2
  all_goals (go_ret; exact ⟨by first | rfl | (simp [Hear.isWrong, *]; done) | (simp_all [Hear.isWrong]; done), bel⟩)
theorem refMatch_any (k0 i0 k1 i1 x : Int) (w : World) :
    Calls Try.prog 30 #[.agg #[.int .i64 k0, .int .i64 i0, .int .i64 k1, .int .i64 i1], .int .i64 x] w fun e w' => e = .returned (.bool (Hear.isMatch x k0 i0 || Hear.isMatch x k1 i1)) ∧ Below w.heap.size w w' := by
  go_enter Try.func30, Try.ntmps30
  go_wp2
  all_goals (go_ret; exact ⟨by first | rfl | (simp [Hear.isMatch, *]; done) | (simp_all [Hear.isMatch]; done), bel⟩)
end Go.Proofs.Ytjkdmnodamcjnaa
