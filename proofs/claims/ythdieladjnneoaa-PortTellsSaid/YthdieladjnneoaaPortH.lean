
import Derived.Test.YthdieladjnneoaaRows
import Derived.Test.YthdieladjnneoaaPortG
namespace Go.Proofs.Ythdieladjnneoaa
set_option linter.unusedVariables false
set_option linter.unusedSimpArgs false
open Go.ChangeShapes Go.WideShapes Go.RowKit

theorem Prs.like {w : World} {v : Value} {n : Nat} {f g : Nat → Int} (h : Prs w v n f) (e : ∀ j, j < 2 * n → f j = g j) : Prs w v n g := by
  rcases h with h | ⟨b, o, cap, rfl, hlt, h⟩
  · exact Or.inl h
  · exact Or.inr ⟨b, o, cap, rfl, hlt, fun j hj => by rw [← e j hj]; exact h j hj⟩
def eachK (f g : Nat → Int) (K j : Nat) : Int := if j < 2 * K then bothF f g j else 0
theorem eachK_two (f g : Nat → Int) (K j : Nat) : eachK f g (K + 1) j = if j = K * 2 + 1 then orF (f (K * 2)) (f (K * 2 + 1)) (f (K * 2 + 1)) (g (K * 2 + 1)) else if j = K * 2 then orF (f (K * 2)) (f (K * 2 + 1)) (f (K * 2)) (g (K * 2)) else eachK f g K j := by
  unfold eachK orF
  by_cases e1 : j = K * 2 + 1
  · subst e1
    rw [if_pos (by omega), if_pos rfl]
    unfold bothF
    rw [show (K * 2 + 1) / 2 * 2 = K * 2 by omega]
  · rw [if_neg e1]
    by_cases e0 : j = K * 2
    · subst e0
      rw [if_pos (by omega), if_pos rfl]
      unfold bothF
      rw [show K * 2 / 2 * 2 = K * 2 by omega]
    · rw [if_neg e0]
      by_cases q : j < 2 * K
      · rw [if_pos q, if_pos (by omega)]
      · rw [if_neg q, if_neg (by omega)]
theorem eachK_both (f g : Nat → Int) (n j : Nat) (h : j < 2 * n) : eachK f g n j = bothK f g n j := by
  unfold eachK bothK
  rw [if_pos h, if_pos h]
set_option maxHeartbeats 1000000 in
theorem Both_at (n b o cap b' o' cap' : Nat) (f g : Nat → Int) (w : World) (hn : n ≤ 1000) (hlt : b < w.heap.size) (hlt' : b' < w.heap.size)
    (hf : ∀ j, j < 2 * n → w.cell? ⟨b, o + j, none⟩ = some (.int .i64 (f j))) (hg : ∀ j, j < 2 * n → w.cell? ⟨b', o' + j, none⟩ = some (.int .i64 (g j))) :
    Calls Try.prog 10 #[.slice (some ⟨b, o, none⟩) n cap, .slice (some ⟨b', o', none⟩) n cap'] w fun e w' => Gives n (bothK f g n) 0 e w' ∧ Below w.heap.size w w' := by
  have HF := Lib.hid hf
  have HG := Lib.hid hg
  clear hf hg
  have hmk := make_pairs n (by omega)
  go_enter Try.func10, Try.ntmps10
  go_wp2_with fail
  clear hmk
  have hI : Ints (w.alloc (.cells (madeCells #[.int .i64 0, .int .i64 0] (2 * n)) 35)) w.heap.size (2 * n) (eachK f g 0) := by
    have h := Ints.made w (2 * n) 35
    rw [show eachK f g 0 = fun _ => 0 from funext fun j => if_neg (by omega)]
    exact h
  have HI := Lib.hid hI
  clear hI
  go_loopw [19] (fun k wr => ∃ K : Nat, K ≤ n ∧ k = .int .i64 K ∧ Ints wr w.heap.size (2 * n) (eachK f g K) ∧ Below w.heap.size w wr) (fun k _ => n - (intOf k).toNat)
  case atStart => exact ⟨0, by omega, rfl, HI.out, bel⟩
  case round =>
    clear HI
    obtain ⟨K, hK, rfl, hI, hb⟩ := hrel
    have HB := Lib.hid hb
    have HI := Lib.hid hI
    by_cases hlt2 : K < n
    · have h1 : (K : Int) < n := by omega
      have h0 : (0 : Int) ≤ K := by omega
      obtain ⟨c0, c1⟩ := two_cells HF.out hb hlt2
      obtain ⟨d0, d1⟩ := two_cells HG.out hb hlt2
      have hz0 := hI.1
      have hz3 : b' < wr.heap.size := Nat.lt_of_lt_of_le hlt' hb.size
      have hz4 : b < wr.heap.size := Nat.lt_of_lt_of_le hlt hb.size
      have HT := Lib.hid (eachK_two f g K)
      clear hb hI
      have CO := Lib.hid (fun w => either_any (f (K * 2)) (f (K * 2 + 1)) (g (K * 2)) (g (K * 2 + 1)) w)
      generalize orF (f (K * 2)) (f (K * 2 + 1)) (f (K * 2)) (g (K * 2)) = xk at *
      generalize orF (f (K * 2)) (f (K * 2 + 1)) (f (K * 2 + 1)) (g (K * 2 + 1)) = xi at *
      go_wp2_with fail
      go_region_with (go_at_call 19; refine (CO.out _).mono ?_; rintro e w1 ⟨rfl, hb⟩; have hz := hb.size; (try simp at hz); have HB1 := Lib.hid (show Below w.heap.size w w1 from by have := HB.out; exact bel); have HI1 := Lib.hid ((HI.out.alloc _).drewN _ |>.below hb); clear hb; have hz1 := HI1.out.1; obtain ⟨g0, f0⟩ := HI1.out.2 (K * 2) (by omega); obtain ⟨g1, f1⟩ := HI1.out.2 (K * 2 + 1) (by omega))
      all_goals
        go_wp2_with fail
        go_roundw
        case rel =>
          have := HB1.out
          refine ⟨K + 1, by omega, by go_num, ?_, bel⟩
          refine ((HI1.out.set (K * 2) xk (by omega) (fun j => if j = K * 2 then xk else eachK f g K j) (fun j => rfl)).set (K * 2 + 1) xi (by omega) (eachK f g (K + 1)) (fun j => ?_))
          rw [HT.out j]
        case measure => simp [intOf]; omega
    · obtain rfl : K = n := by omega
      clear hb hI
      have := HB.out
      go_wp2
      go_ret2
      exact ⟨⟨_, rfl, HI.out.prs.like (eachK_both f g K)⟩, bel⟩
end Go.Proofs.Ythdieladjnneoaa
