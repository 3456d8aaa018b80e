
import Derived.Test.YthdieladjnneoaaRows
import Derived.Test.YthdieladjnneoaaPortF
import Derived.Test.YthdieladjnneoaaWireC
import Derived.Deep.RegionWith
namespace Go.Proofs.Ythdieladjnneoaa
set_option linter.unusedVariables false
set_option linter.unusedSimpArgs false
open Go.ChangeShapes Go.WideShapes Go.RowKit

theorem own_any (p : Nat) (s : ByteArray) (hs : s.size ≤ maxLen) (w : World) :
    Calls Try.prog 16 #[.int .i64 p, .string s] w fun e w' => e = .returned (.agg #[.int .i64 (tk p s), .int .i64 (ti p s)]) ∧ Below w.heap.size w w' := by
  have CG := Lib.hid (fun w => get_any s hs w)
  unfold tk ti
  generalize Wire.kind s.data.toList = xk at *
  generalize Wire.id_ s.data.toList = xi at *
  by_cases ht : (xk = 1 ∨ xk = 2) ∧ xi = p
  · rw [if_pos ht, if_pos ht]
    obtain ⟨hk, rfl⟩ := ht
    rcases hk with rfl | rfl
    · go_enter Try.func16, Try.ntmps16
      go_wp2_with fail
      refine (CG.out _).mono ?_; rintro e w1 ⟨rfl, hb⟩; have hz := hb.size; (try simp only [World.size_alloc, World.heap_drewN, World.size_drew, World.size_setCell] at hz)
      have z_r0 : (w.heap.size) < w1.heap.size := (by omega); replace r0 : w1.rangeAt (w.heap.size) 0 [.int .i64 0, .int .i64 0] := rng; replace f_r0 : Free w1 (w.heap.size) := fre
      replace r0_0 := range_cell r0 0 rfl; replace r0_1 := range_cell r0 1 rfl; replace r0_f0 := f_r0 0; replace r0_f1 := f_r0 1
      go_wp2
      refine bodyPost_ret (ret_cell Try.results16 (w.heap.size) [.int .i64 1, .int .i64 p] _ rfl rng Try.underlying35 rfl (by kernel_rfl)) rfl ⟨rfl, ?_⟩; exact bel
    · go_enter Try.func16, Try.ntmps16
      go_wp2_with fail
      refine (CG.out _).mono ?_; rintro e w1 ⟨rfl, hb⟩; have hz := hb.size; (try simp only [World.size_alloc, World.heap_drewN, World.size_drew, World.size_setCell] at hz)
      have z_r0 : (w.heap.size) < w1.heap.size := (by omega); replace r0 : w1.rangeAt (w.heap.size) 0 [.int .i64 0, .int .i64 0] := rng; replace f_r0 : Free w1 (w.heap.size) := fre
      replace r0_0 := range_cell r0 0 rfl; replace r0_1 := range_cell r0 1 rfl; replace r0_f0 := f_r0 0; replace r0_f1 := f_r0 1
      go_wp2
      refine bodyPost_ret (ret_cell Try.results16 (w.heap.size) [.int .i64 2, .int .i64 p] _ rfl rng Try.underlying35 rfl (by kernel_rfl)) rfl ⟨rfl, ?_⟩; exact bel
  · rw [if_neg ht, if_neg ht]
    by_cases hk : xk = 1 ∨ xk = 2
    · have q : (xi == (p : Int)) = false := by simp; intro q; exact ht ⟨hk, q⟩
      clear ht
      rcases hk with rfl | rfl
      all_goals
        go_enter Try.func16, Try.ntmps16
        go_wp2_with fail
        refine (CG.out _).mono ?_; rintro e w1 ⟨rfl, hb⟩; have hz := hb.size; (try simp only [World.size_alloc, World.heap_drewN, World.size_drew, World.size_setCell] at hz)
        have z_r0 : (w.heap.size) < w1.heap.size := (by omega); replace r0 : w1.rangeAt (w.heap.size) 0 [.int .i64 0, .int .i64 0] := rng; replace f_r0 : Free w1 (w.heap.size) := fre
        replace r0_0 := range_cell r0 0 rfl; replace r0_1 := range_cell r0 1 rfl; replace r0_f0 := f_r0 0; replace r0_f1 := f_r0 1
        go_wp2
        refine bodyPost_ret (ret_cell Try.results16 (w.heap.size) [.int .i64 0, .int .i64 0] _ rfl rng Try.underlying35 rfl (by kernel_rfl)) rfl ⟨rfl, ?_⟩; exact bel
    · have q1 : (xk == 1) = false := by simp; omega
      have q2 : (xk == 2) = false := by simp; omega
      clear ht hk
      go_enter Try.func16, Try.ntmps16
      go_wp2_with fail
      refine (CG.out _).mono ?_; rintro e w1 ⟨rfl, hb⟩; have hz := hb.size; (try simp only [World.size_alloc, World.heap_drewN, World.size_drew, World.size_setCell] at hz)
      have z_r0 : (w.heap.size) < w1.heap.size := (by omega); replace r0 : w1.rangeAt (w.heap.size) 0 [.int .i64 0, .int .i64 0] := rng; replace f_r0 : Free w1 (w.heap.size) := fre
      replace r0_0 := range_cell r0 0 rfl; replace r0_1 := range_cell r0 1 rfl; replace r0_f0 := f_r0 0; replace r0_f1 := f_r0 1
      go_wp2
      refine bodyPost_ret (ret_cell Try.results16 (w.heap.size) [.int .i64 0, .int .i64 0] _ rfl rng Try.underlying35 rfl (by kernel_rfl)) rfl ⟨rfl, ?_⟩; exact bel

/-- The first, if it is something, else the second. -/
def orF (a0 a1 a b : Int) : Int := if a0 = 0 ∧ a1 = 0 then b else a
theorem either_any (a0 a1 b0 b1 : Int) (w : World) :
    Calls Try.prog 19 #[.agg #[.int .i64 a0, .int .i64 a1], .agg #[.int .i64 b0, .int .i64 b1]] w fun e w' => e = .returned (.agg #[.int .i64 (orF a0 a1 a0 b0), .int .i64 (orF a0 a1 a1 b1)]) ∧ Below w.heap.size w w' := by
  unfold orF
  by_cases ht : a0 = 0 ∧ a1 = 0
  · rw [if_pos ht, if_pos ht]
    obtain ⟨rfl, rfl⟩ := ht
    go_enter Try.func19, Try.ntmps19
    go_wp2
    refine bodyPost_ret (ret_cell Try.results19 (w.heap.size + 1 + 1) [.int .i64 b0, .int .i64 b1] _ rfl rng Try.underlying35 rfl (by kernel_rfl)) rfl ⟨rfl, ?_⟩; exact bel
  · rw [if_neg ht, if_neg ht]
    by_cases t0 : a0 = 0
    · have t1 : a1 ≠ 0 := fun q => ht ⟨t0, q⟩
      have e1 : (a1 == 0) = false := by simp [t1]
      subst t0
      clear ht t1
      go_enter Try.func19, Try.ntmps19
      go_wp2
      refine bodyPost_ret (ret_cell Try.results19 (w.heap.size + 1 + 1) [.int .i64 0, .int .i64 a1] _ rfl rng Try.underlying35 rfl (by kernel_rfl)) rfl ⟨rfl, ?_⟩; exact bel
    · have e0 : (a0 == 0) = false := by simp [t0]
      clear ht t0
      go_enter Try.func19, Try.ntmps19
      go_wp2
      refine bodyPost_ret (ret_cell Try.results19 (w.heap.size + 1 + 1) [.int .i64 a0, .int .i64 a1] _ rfl rng Try.underlying35 rfl (by kernel_rfl)) rfl ⟨rfl, ?_⟩; exact bel

set_option maxHeartbeats 1000000 in
theorem Take_at (n b o cap : Nat) (s : Nat → ByteArray) (w : World) (hn : 3 ≤ n ∧ n ≤ 8) (hlt : b < w.heap.size) (hf : ∀ j, j < n → w.cell? ⟨b, o + j, none⟩ = some (.string (s j))) (hs : ∀ j, j < n → (s j).size ≤ maxLen) :
    Calls Try.prog 8 #[.int .i64 n, .slice (some ⟨b, o, none⟩) n cap] w fun e w' => e = .returned (.tuple #[.slice (some ⟨w.heap.size, 0, none⟩) n n, .int .i64 0]) ∧ Ints w' w.heap.size (2 * n) (takeK s n) ∧ Below w.heap.size w w' := by
  have HF := Lib.hid hf
  have HS := Lib.hid hs
  have hmk := make_pairs n (by omega)
  have hr : Conf.right n = true := Conf.right_spec.2 (by omega)
  clear hf hs
  go_enter Try.func8, Try.ntmps8
  go_wp2_with fail
  refine (cright_any _ _).mono ?_; rintro e w' ⟨rfl, rfl⟩
  rw [hr]
  go_wp2_with fail
  clear hmk
  have hI : Ints (w.alloc (.cells (madeCells #[.int .i64 0, .int .i64 0] (2 * n)) 35)) w.heap.size (2 * n) (takeK s 0) := by
    have h := Ints.made w (2 * n) 35
    rw [show takeK s 0 = fun _ => 0 from funext fun j => if_neg (by omega)]
    exact h
  have HI := Lib.hid hI
  clear hI
  go_loopw [22] (fun k wr => ∃ K : Nat, K ≤ n ∧ k = .int .i64 K ∧ Ints wr w.heap.size (2 * n) (takeK s K) ∧ Below w.heap.size w wr) (fun k _ => n - (intOf k).toNat)
  case atStart => exact ⟨0, by omega, rfl, HI.out, bel⟩
  case round =>
    clear HI
    obtain ⟨K, hK, rfl, hI, hb⟩ := hrel
    have HB := Lib.hid hb
    have HI := Lib.hid hI
    by_cases hlt2 : K < n
    · have h1 : (K : Int) < n := by omega
      have h0 : (0 : Int) ≤ K := by omega
      have c0 : wr.cell? ⟨b, o + K, none⟩ = some (.string (s K)) := by
        have e0 := HF.out K hlt2
        rw [hb.cell (block_lt_of_cell e0)]; exact e0
      have HT := Lib.hid (takeK_two s K)
      clear hb hI
      have CO := Lib.hid (fun w => own_any K (s K) (HS.out K hlt2) w)
      generalize tk K (s K) = xk at *
      generalize ti K (s K) = xi at *
      generalize s K = z at *
      go_wp2_with fail
      refine (CO.out _).mono ?_; rintro e w1 ⟨rfl, hb⟩; have hz := hb.size; (try simp only [World.size_alloc, World.heap_drewN, World.size_drew, World.size_setCell] at hz)
      have HB1 := Lib.hid (show Below w.heap.size w w1 from by have := HB.out; exact bel)
      have HI1 := Lib.hid (HI.out.below hb)
      clear hb HI
      have hz1 := HI1.out.1
      obtain ⟨g0, f0⟩ := HI1.out.2 (K * 2) (by omega)
      obtain ⟨g1, f1⟩ := HI1.out.2 (K * 2 + 1) (by omega)
      go_wp2_with fail
      go_roundw
      case rel =>
        have := HB1.out
        refine ⟨K + 1, by omega, by go_num, ?_, bel⟩
        refine ((HI1.out.set (K * 2) xk (by omega) (fun j => if j = K * 2 then xk else takeK s K j) (fun j => rfl)).set (K * 2 + 1) xi (by omega) (takeK s (K + 1)) (fun j => ?_))
        rw [HT.out j]
      case measure => simp [intOf]; omega
    · obtain rfl : K = n := by omega
      clear hb hI
      have := HB.out
      go_wp2
      go_ret2
      exact ⟨rfl, HI.out, bel⟩
theorem Take_any (n : Int) (v : Value) (m : Nat) (s : Nat → ByteArray) (w : World) (hm : m ≤ maxLen) (hs : ∀ j, j < m → (s j).size ≤ maxLen) (hf : Strs w v m s) :
    Calls Try.prog 8 #[.int .i64 n, v] w fun e w' => Gives (takeLen n m) (takeK s m) (takeErr n m) e w' ∧ Below w.heap.size w w' := by
  by_cases h : Conf.right n = true
  · obtain ⟨h3, h8⟩ := Conf.right_spec.1 h
    by_cases e : (m : Int) = n
    · subst e
      rw [show takeLen m m = m by unfold takeLen; rw [if_pos ⟨h, rfl⟩], show takeErr m m = 0 by unfold takeErr; rw [if_pos h, if_pos rfl]]
      rcases hf with ⟨rfl, -⟩ | ⟨b, o, cap, rfl, hb, hf⟩
      · omega
      · refine (Take_at m b o cap s w (by omega) hb hf hs).mono ?_
        rintro e w' ⟨rfl, hI, hb2⟩
        exact ⟨⟨_, rfl, hI.prs⟩, hb2⟩
    · rw [show takeLen n m = 0 by unfold takeLen; rw [if_neg (fun q => e q.2)], show takeErr n m = 2 by unfold takeErr; rw [if_pos h, if_neg e]]
      have q : ((m : Int) != n) = true := by simp [e]
      rcases hf with ⟨rfl, pf, cf, rfl⟩ | ⟨b, o, cap, rfl, hb, -⟩
      all_goals
        clear e hs
        go_enter Try.func8, Try.ntmps8
        go_wp2_with fail
        refine (cright_any _ _).mono ?_; rintro e w' ⟨rfl, rfl⟩
        rw [h]
        go_wp2
        go_ret2
        exact ⟨Gives.none, bel⟩
  · have h := Bool.eq_false_iff.2 h
    rw [show takeLen n m = 0 by unfold takeLen; rw [if_neg (fun q => by rw [h] at q; cases q.1)], show takeErr n m = 1 by unfold takeErr; rw [if_neg (by rw [h]; decide)]]
    clear hs
    rcases hf with ⟨rfl, pf, cf, rfl⟩ | ⟨b, o, cap, rfl, hb, -⟩
    all_goals
      go_enter Try.func8, Try.ntmps8
      go_wp2_with fail
      refine (cright_any _ _).mono ?_; rintro e w' ⟨rfl, rfl⟩
      rw [h]
      go_wp2
      go_ret2
      exact ⟨Gives.none, bel⟩
end Go.Proofs.Ythdieladjnneoaa
