
import Derived.Test.YtnohgfolejookaaRows
import Derived.Test.YtnohgfolejookaaVoteP
namespace Go.Proofs.Ytnohgfolejookaa
set_option linter.unusedVariables false
set_option linter.unusedSimpArgs false
open Go.ChangeShapes Go.WideShapes Go.RowKit

/-- Which of the ages stands there. -/
def idx (j : Nat) : Nat := if j = 9 then 8 else if j < 8 then j else 100
theorem idx_pl {K : Nat} (h : K < 9) : idx (pl K) = K := by
  unfold idx pl
  by_cases e : K = 8
  · rw [if_pos e, if_pos rfl, e]
  · rw [if_neg e, if_neg (by omega), if_pos (by omega)]
theorem pl_idx {K j : Nat} (h : K < 9) (e : idx j = K) : j = pl K := by
  unfold idx at e
  unfold pl
  by_cases e9 : j = 9
  · rw [if_pos e9] at e; rw [if_pos e.symm, e9]
  · rw [if_neg e9] at e
    by_cases e8 : j < 8
    · rw [if_pos e8] at e; rw [if_neg (by omega), e]
    · rw [if_neg e8] at e; omega
theorem pl_lt {K : Nat} (h : K < 9) : pl K < 12 := by unfold pl; split <;> omega
/-- A hub, when the first 'K' of its ages are new. -/
def stK (new old : Nat → Int) (K j : Nat) : Int := if idx j < K then new j else old j
theorem stK_zero (new old : Nat → Int) : stK new old 0 = old := by funext j; exact if_neg (by omega)
theorem stK_at (new old : Nat → Int) {K : Nat} (h : K < 9) : stK new old K (pl K) = old (pl K) := if_neg (by rw [idx_pl h]; omega)
theorem stK_next (new old : Nat → Int) {K : Nat} (h : K < 9) (j : Nat) : stK new old (K + 1) j = if j = pl K then new (pl K) else stK new old K j := by
  unfold stK
  by_cases e : j = pl K
  · rw [if_pos e, if_pos (by rw [e, idx_pl h]; omega), e]
  · rw [if_neg e]
    by_cases e2 : idx j < K
    · rw [if_pos e2, if_pos (by omega)]
    · rw [if_neg e2, if_neg (fun q => e (pl_idx h (by omega)))]
theorem stK_end (new old : Nat → Int) (j : Nat) : stK new old 9 j = if j < 8 then new j else if j = 9 then new 9 else old j := by
  unfold stK idx
  by_cases e : j < 8
  · rw [if_pos e, if_neg (show ¬ j = 9 by omega), if_pos e, if_pos (show j < 9 by omega)]
  · rw [if_neg e, if_neg e]
    by_cases e9 : j = 9
    · rw [if_pos e9, if_pos (by decide), if_pos e9, e9]
    · rw [if_neg e9, if_neg (by omega), if_neg e9]
theorem ms_port (n : Int) {j : Nat} (h : j < 8) : ms n (idx j) = Vote.most n j := by
  unfold ms idx
  rw [if_neg (show ¬ j = 9 by omega), if_pos h, if_neg (by omega)]
theorem ms_cs (n : Int) : ms n (idx 9) = 2 * n + 1 := rfl
theorem fresh_end {n : Int} (h : Conf.right n = true) (j : Nat) : stK (fun j => ms n (idx j)) (fun _ => 0) 9 j = Vote.fresh n j := by
  rw [stK_end]
  unfold Vote.fresh
  rw [if_pos h]
  by_cases e : j < 8
  · rw [if_pos e, if_pos e, ms_port n e]
  · rw [if_neg e, if_neg e]
    by_cases e9 : j = 9
    · rw [if_pos e9, if_pos e9, ms_cs]
    · rw [if_neg e9, if_neg e9]
theorem two_new (w : World) (u v : Value) (t : TypeId) : (w.alloc (.cells #[u, v] t)).cell? ⟨w.heap.size, 0, none⟩ = some u ∧ (w.alloc (.cells #[u, v] t)).cell? ⟨w.heap.size, 1, none⟩ = some v :=
  ⟨range_cell (range_new w #[u, v] t) 0 rfl, range_cell (range_new w #[u, v] t) 1 rfl⟩
set_option maxHeartbeats 4000000 in
theorem vFresh_any (n : Int) (w : World) :
    Calls Try.prog 6 #[.int .i64 n] w fun e w' => e = .returned (.tuple #[.agg #[.int .i64 (Vote.fresh n 0), .int .i64 (Vote.fresh n 1), .int .i64 (Vote.fresh n 2), .int .i64 (Vote.fresh n 3), .int .i64 (Vote.fresh n 4), .int .i64 (Vote.fresh n 5), .int .i64 (Vote.fresh n 6), .int .i64 (Vote.fresh n 7), .int .i64 (Vote.fresh n 8), .int .i64 (Vote.fresh n 9), .int .i64 (Vote.fresh n 10), .int .i64 (Vote.fresh n 11)], .int .i64 (Vote.err n)]) ∧ Below w.heap.size w w' := by
  by_cases h : Conf.right n = true
  · rw [Vote.err_yes h]
    have HR := Lib.hid h
    have HE := Lib.hid (fresh_end h)
    have CA := Lib.hid (fun b w => ages_any n b w h)
    generalize Vote.fresh n = g at *
    clear h
    go_enter Try.func6, Try.ntmps6
    go_wp2_with fail
    refine (cright_any _ _).mono ?_; rintro e w' ⟨rfl, rfl⟩
    rw [HR.out]
    go_upto_region 4 with fail
    have HI := Lib.hid (Ints.zeros (w.alloc (.cells #[.int .i64 ((fun _ => (0 : Int)) 0), .int .i64 ((fun _ => (0 : Int)) 1), .int .i64 ((fun _ => (0 : Int)) 2), .int .i64 ((fun _ => (0 : Int)) 3), .int .i64 ((fun _ => (0 : Int)) 4), .int .i64 ((fun _ => (0 : Int)) 5), .int .i64 ((fun _ => (0 : Int)) 6), .int .i64 ((fun _ => (0 : Int)) 7), .int .i64 ((fun _ => (0 : Int)) 8), .int .i64 ((fun _ => (0 : Int)) 9), .int .i64 ((fun _ => (0 : Int)) 10), .int .i64 ((fun _ => (0 : Int)) 11)] 24)) 24)
    have HZ := Lib.hid ((Ints.zeros w 24).alloc (.cells #[.int .i64 ((fun _ => (0 : Int)) 0), .int .i64 ((fun _ => (0 : Int)) 1), .int .i64 ((fun _ => (0 : Int)) 2), .int .i64 ((fun _ => (0 : Int)) 3), .int .i64 ((fun _ => (0 : Int)) 4), .int .i64 ((fun _ => (0 : Int)) 5), .int .i64 ((fun _ => (0 : Int)) 6), .int .i64 ((fun _ => (0 : Int)) 7), .int .i64 ((fun _ => (0 : Int)) 8), .int .i64 ((fun _ => (0 : Int)) 9), .int .i64 ((fun _ => (0 : Int)) 10), .int .i64 ((fun _ => (0 : Int)) 11)] 24))
    go_wp2_with fail
    refine (CA.out _ _).mono ?_; rintro e w1 ⟨rfl, hb⟩; have hz := hb.size; (try simp only [World.size_alloc, World.heap_drewN, World.size_drew, World.size_setCell] at hz)
    have HB1 := Lib.hid (show Below w.heap.size w w1 from bel)
    have HI1 := Lib.hid (HI.out.below hb)
    have HZ1 := Lib.hid (HZ.out.below hb)
    clear hb HI HZ
    go_wp2_with fail
    go_loopw [14] (fun k wr => ∃ K : Nat, K ≤ 9 ∧ k = .int .i64 K ∧ Ints wr (w.heap.size + 1) 12 (stK (fun j => ms n (idx j)) (fun _ => 0) K) ∧ Ints wr w.heap.size 12 (fun _ => 0) ∧ Below w.heap.size w wr) (fun k _ => 9 - (intOf k).toNat)
    case atStart =>
      refine ⟨0, by omega, rfl, ?_, HZ1.out, HB1.out⟩
      rw [stK_zero]
      simpa using HI1.out
    case round =>
      clear HI1 HZ1 HB1
      obtain ⟨K, hK, rfl, hI, hZ, hb⟩ := hrel
      have HB := Lib.hid hb
      have HI := Lib.hid hI
      have HZ := Lib.hid hZ
      clear hb hI hZ
      by_cases hlt : K < 9
      · have h1 : (K : Int) < 9 := by omega
        have ha := ages_index (w.heap.size + 1) (ms n) hlt
        have HN := Lib.hid (stK_next (fun j => ms n (idx j)) (fun _ => 0) hlt)
        rw [idx_pl hlt] at HN
        have hp := pl_lt hlt
        generalize ms n K = x at *
        generalize pl K = q at *
        go_upto_region 7 with fail
        obtain ⟨c0, c1⟩ := two_new wr (.pointer (some ⟨w.heap.size + 1, q, none⟩)) (.int .i64 x) 39
        have HI2 := Lib.hid (HI.out.alloc (.cells #[.pointer (some ⟨w.heap.size + 1, q, none⟩), .int .i64 x] 39))
        have HZ2 := Lib.hid (HZ.out.alloc (.cells #[.pointer (some ⟨w.heap.size + 1, q, none⟩), .int .i64 x] 39))
        have HB2 := Lib.hid (show Below w.heap.size w (wr.alloc (.cells #[.pointer (some ⟨w.heap.size + 1, q, none⟩), .int .i64 x] 39)) from by have := HB.out; exact bel)
        generalize World.alloc wr _ = wa at *
        clear HI HZ HB
        obtain ⟨cq, fq⟩ := HI2.out.2 q hp
        go_wp2
        go_roundw
        case rel =>
          have := HB2.out
          exact ⟨K + 1, by omega, by go_num, HI2.out.set q x hp _ HN.out, HZ2.out.other _ _ _ (by omega), bel⟩
        case measure => simp [intOf]; omega
      · obtain rfl : K = 9 := by omega
        have HI2 := Lib.hid (HI.out.like (g := g) (fun j hj => HE.out j))
        clear HI
        have HI2_c0 := (HI2.out.2 0 (by decide)).1; have HI2_c1 := (HI2.out.2 1 (by decide)).1; have HI2_c2 := (HI2.out.2 2 (by decide)).1; have HI2_c3 := (HI2.out.2 3 (by decide)).1; have HI2_c4 := (HI2.out.2 4 (by decide)).1; have HI2_c5 := (HI2.out.2 5 (by decide)).1; have HI2_c6 := (HI2.out.2 6 (by decide)).1; have HI2_c7 := (HI2.out.2 7 (by decide)).1; have HI2_c8 := (HI2.out.2 8 (by decide)).1; have HI2_c9 := (HI2.out.2 9 (by decide)).1; have HI2_c10 := (HI2.out.2 10 (by decide)).1; have HI2_c11 := (HI2.out.2 11 (by decide)).1; have HI2_z := HI2.out.1
        have HZ_r := HZ.out.row12; have HZ_c0 := (HZ.out.2 0 (by decide)).1; have HZ_f0 := (HZ.out.2 0 (by decide)).2; have HZ_c1 := (HZ.out.2 1 (by decide)).1; have HZ_f1 := (HZ.out.2 1 (by decide)).2; have HZ_c2 := (HZ.out.2 2 (by decide)).1; have HZ_f2 := (HZ.out.2 2 (by decide)).2; have HZ_c3 := (HZ.out.2 3 (by decide)).1; have HZ_f3 := (HZ.out.2 3 (by decide)).2; have HZ_c4 := (HZ.out.2 4 (by decide)).1; have HZ_f4 := (HZ.out.2 4 (by decide)).2; have HZ_c5 := (HZ.out.2 5 (by decide)).1; have HZ_f5 := (HZ.out.2 5 (by decide)).2; have HZ_c6 := (HZ.out.2 6 (by decide)).1; have HZ_f6 := (HZ.out.2 6 (by decide)).2; have HZ_c7 := (HZ.out.2 7 (by decide)).1; have HZ_f7 := (HZ.out.2 7 (by decide)).2; have HZ_c8 := (HZ.out.2 8 (by decide)).1; have HZ_f8 := (HZ.out.2 8 (by decide)).2; have HZ_c9 := (HZ.out.2 9 (by decide)).1; have HZ_f9 := (HZ.out.2 9 (by decide)).2; have HZ_c10 := (HZ.out.2 10 (by decide)).1; have HZ_f10 := (HZ.out.2 10 (by decide)).2; have HZ_c11 := (HZ.out.2 11 (by decide)).1; have HZ_f11 := (HZ.out.2 11 (by decide)).2; have HZ_z := HZ.out.1
        have := HB.out
        go_wp2
        refine bodyPost_ret (ret_cell_tmp Try.results6 (w.heap.size) [.int .i64 ((g) 0), .int .i64 ((g) 1), .int .i64 ((g) 2), .int .i64 ((g) 3), .int .i64 ((g) 4), .int .i64 ((g) 5), .int .i64 ((g) 6), .int .i64 ((g) 7), .int .i64 ((g) 8), .int .i64 ((g) 9), .int .i64 ((g) 10), .int .i64 ((g) 11)] _ rfl rng Try.underlying24 rfl (by kernel_rfl)) rfl ⟨rfl, ?_⟩; exact bel
  · have h := Bool.eq_false_iff.2 h
    rw [Vote.err_no h]
    simp only [fresh_no h]
    go_enter Try.func6, Try.ntmps6
    go_wp2_with fail
    refine (cright_any _ _).mono ?_; rintro e w' ⟨rfl, rfl⟩
    rw [h]
    go_wp2
    refine bodyPost_ret (ret_cell_tmp Try.results6 (w.heap.size) [.int .i64 ((fun _ => 0) 0), .int .i64 ((fun _ => 0) 1), .int .i64 ((fun _ => 0) 2), .int .i64 ((fun _ => 0) 3), .int .i64 ((fun _ => 0) 4), .int .i64 ((fun _ => 0) 5), .int .i64 ((fun _ => 0) 6), .int .i64 ((fun _ => 0) 7), .int .i64 ((fun _ => 0) 8), .int .i64 ((fun _ => 0) 9), .int .i64 ((fun _ => 0) 10), .int .i64 ((fun _ => 0) 11)] _ rfl rng Try.underlying24 rfl (by kernel_rfl)) rfl ⟨rfl, ?_⟩; exact bel
end Go.Proofs.Ytnohgfolejookaa
