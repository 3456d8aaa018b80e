
import Derived.Test.YthdieladjnneoaaRows
import Derived.Test.YthdieladjnneoaaPortA
namespace Go.Proofs.Ythdieladjnneoaa
set_option linter.unusedVariables false
set_option linter.unusedSimpArgs false
open Go.ChangeShapes Go.WideShapes Go.RowKit

/-- Something is told of the slice's length: it is 20 at most, if the answer is 'true'. -/
def Tells20 (n : Nat) (e : Ending) : Prop := ∃ sb : Bool, e = .returned (.bool sb) ∧ (sb = true → n ≤ 20)
set_option maxHeartbeats 1000000 in
theorem short_at (b o cap n : Nat) (s : Nat → ByteArray) (w : World) (hn : n ≤ maxLen) (hf : ∀ j, j < n → w.cell? ⟨b, o + j, none⟩ = some (.string (s j))) :
    Calls Try.prog 6 #[.slice (some ⟨b, o, none⟩) n cap] w fun e w' => Tells20 n e ∧ Below w.heap.size w w' := by
  have HF := Lib.hid hf
  have hml : maxLen = 9223372036854775807 := by unfold maxLen; rfl
  rw [hml] at hn
  clear hf
  go_enter Try.func6, Try.ntmps6
  go_wp2_with fail
  go_loopw [3, 4] (fun x k wr => ∃ (K : Nat) (q : Int), K ≤ n ∧ k = .int .i64 K ∧ x = .int .i64 q ∧ Below w.heap.size w wr) (fun _ k _ => n - (intOf k).toNat)
  case atStart => exact ⟨0, 0, by omega, rfl, rfl, bel⟩
  case round =>
    obtain ⟨K, q, hK, rfl, rfl, hb⟩ := hrel
    have HB := Lib.hid hb
    by_cases hlt : K < n
    · have h1 : (K : Int) < n := by omega
      have h0 : (0 : Int) ≤ K := by omega
      have c0 : wr.cell? ⟨b, o + K, none⟩ = some (.string (s K)) := by
        have e0 := HF.out K hlt
        rw [hb.cell (block_lt_of_cell e0)]; exact e0
      clear hb
      generalize s K = z at *
      go_wp2_with fail
      go_roundw
      case rel =>
        have := HB.out
        exact ⟨K + 1, _, by omega, by go_num, rfl, bel⟩
      case measure => simp [intOf]; omega
    · obtain rfl : K = n := by omega
      clear hb
      have := HB.out
      by_cases h20 : (K : Int) ≤ 20
      · by_cases hq : q ≤ 1000
        all_goals
          go_wp2
          go_ret
          exact ⟨⟨_, rfl, fun _ => by omega⟩, bel⟩
      · go_wp2
        go_ret
        exact ⟨⟨_, rfl, fun h => by cases h⟩, bel⟩
theorem short_any (v : Value) (n : Nat) (s : Nat → ByteArray) (w : World) (hn : n ≤ maxLen) (hf : Strs w v n s) :
    Calls Try.prog 6 #[v] w fun e w' => Tells20 n e ∧ Below w.heap.size w w' := by
  rcases hf with ⟨rfl, pf, cf, rfl⟩ | ⟨b, o, cap, rfl, hb, hf⟩
  · go_enter Try.func6, Try.ntmps6
    go_wp2_with fail
    refine wp_loop_rounds 1 ?_
    rw [rounds_succ]
    go_wp2
    go_ret
    exact ⟨⟨_, rfl, fun _ => by omega⟩, bel⟩
  · exact short_at b o cap n s w hn hf
end Go.Proofs.Ythdieladjnneoaa
