
import Derived.Test.YtkdmmomfolhfbaaRows
import Derived.Test.YtkdmmomfolhfbaaMem
import Derived.LoopTactic
import Derived.Deep.Cut
import Derived.Deep.CutRange
import Derived.BigRegion
import Derived.IntWalk
/-
  A slice of slices of frames, as it lies in memory.
-/
namespace Go.Proofs.Ytkdmmomfolhfbaa
set_option linter.unusedVariables false
set_option linter.unusedSimpArgs false
open Go.ChangeShapes Go.WideShapes Go.RowKit

/-- The value 'v' is a slice of 'n' slices of structs of two integers, 'len i' of them in the 'i'th. -/
def Tks (w : World) (v : Value) (n : Nat) (len : Nat → Nat) (f : Nat → Nat → Int) : Prop :=
  (n = 0 ∧ ∃ p c, v = .slice p 0 c) ∨ ∃ b o cap : Nat, v = .slice (some ⟨b, o, none⟩) n cap ∧ b < w.heap.size ∧ ∀ i, i < n → ∃ u, w.cell? ⟨b, o + i, none⟩ = some u ∧ Prs w u (len i) (f i)
theorem Tks.below {w w' : World} {v : Value} {n : Nat} {len : Nat → Nat} {f : Nat → Nat → Int} (h : Tks w v n len f) (hb : Below w.heap.size w w') : Tks w' v n len f := by
  rcases h with h | ⟨b, o, cap, rfl, hlt, h⟩
  · exact Or.inl h
  · refine Or.inr ⟨b, o, cap, rfl, Nat.lt_of_lt_of_le hlt hb.size, fun i hi => ?_⟩
    obtain ⟨u, hc, hp⟩ := h i hi
    exact ⟨u, by rw [hb.cell (p := ⟨b, o + i, none⟩) hlt]; exact hc, hp.below hb⟩
theorem Tks.form {w : World} {v : Value} {n : Nat} {len : Nat → Nat} {f : Nat → Nat → Int} (h : Tks w v n len f) : ∃ p cap, v = .slice p n cap := by
  rcases h with ⟨rfl, p, c, rfl⟩ | ⟨b, o, cap, rfl, -, -⟩
  · exact ⟨_, _, rfl⟩
  · exact ⟨_, _, rfl⟩
theorem Tks.some {w : World} {p : Option Addr} {n c : Nat} {len : Nat → Nat} {f : Nat → Nat → Int} (h : Tks w (.slice p n c) n len f) (hn : 0 < n) : ∃ b o, p = Option.some ⟨b, o, none⟩ ∧ b < w.heap.size ∧ ∀ i, i < n → ∃ u, w.cell? ⟨b, o + i, none⟩ = Option.some u ∧ Prs w u (len i) (f i) := by
  rcases h with ⟨h0, -⟩ | ⟨b, o, cap, e, hb, h⟩
  · omega
  · injection e with e _ _
    exact ⟨b, o, e, hb, h⟩
/-- Few frames in all? -/
def few (most : Int) (n : Nat) (len : Nat → Nat) : Bool := decide ((n : Int) ≤ most ∧ ∀ i, i < n → len i ≤ 20)
set_option maxHeartbeats 1000000 in
theorem refFew_any (v : Value) (most : Int) (n : Nat) (len : Nat → Nat) (f : Nat → Nat → Int) (w : World) (hn : n ≤ maxLen) (hlen : ∀ i, i < n → len i ≤ maxLen) (hv : Tks w v n len f) :
    Calls Try.prog 7 #[v, .int .i64 most] w fun e w' => e = .returned (.bool (few most n len)) ∧ w = w' := by
  obtain ⟨p, c, rfl⟩ := hv.form
  have hml0 : maxLen = 9223372036854775807 := by unfold maxLen; rfl
  have hml : n ≤ 9223372036854775807 := by omega
  by_cases hm : (n : Int) ≤ most
  · have HV := Lib.hid hv
    clear hv
    go_enter Try.func7, Try.ntmps7
    go_wp2_with fail
    go_loopw [5] (fun k wr => ∃ K : Nat, K ≤ n ∧ k = .int .i64 K ∧ wr = w ∧ ∀ i, i < K → len i ≤ 20) (fun k _ => n - (intOf k).toNat)
    case atStart => exact ⟨0, by omega, rfl, rfl, fun i hi => by omega⟩
    case round =>
      obtain ⟨K, hK, rfl, rfl, hA⟩ := hrel
      have HA := Lib.hid hA
      clear hA
      by_cases hlt : K < n
      · have h1 : (K : Int) < n := by omega
        have h0 : (0 : Int) ≤ K := by omega
        obtain ⟨b, o, rfl, hb, hc⟩ := HV.out.some (by omega)
        obtain ⟨u, c0, hp⟩ := hc K hlt
        obtain ⟨pu, cu, rfl⟩ := hp.form
        clear hc hp
        by_cases h20 : len K ≤ 20
        · have e20 : decide ((20 : Int) < len K) = false := decide_eq_false (by omega)
          go_wp2_with fail
          go_roundw
          case rel =>
            refine ⟨K + 1, by omega, by go_num, by trivial, fun i hi => ?_⟩
            by_cases e : i = K
            · rw [e]; exact h20
            · exact HA.out i (by omega)
          case measure => simp [intOf]; omega
        · have e20 : decide ((20 : Int) < len K) = true := decide_eq_true (by omega)
          have hf : few most n len = false := decide_eq_false (fun q => h20 (q.2 K hlt))
          go_wp2
          go_ret
          exact ⟨by first | rfl | (rw [hf]; rfl), rfl⟩
      · obtain rfl : K = n := by omega
        have hf : few most K len = true := decide_eq_true ⟨hm, HA.out⟩
        go_wp2
        go_ret
        exact ⟨by first | rfl | (rw [hf]; rfl), rfl⟩
  · have hf : few most n len = false := decide_eq_false (fun q => hm q.1)
    go_enter Try.func7, Try.ntmps7
    go_wp2
    go_ret
    exact ⟨rfl, rfl⟩
end Go.Proofs.Ytkdmmomfolhfbaa
