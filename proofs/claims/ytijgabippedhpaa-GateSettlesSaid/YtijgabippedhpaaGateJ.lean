
import Derived.Test.YtijgabippedhpaaRows
import Derived.Test.YtijgabippedhpaaGateI
namespace Go.Proofs.Ytijgabippedhpaa
set_option linter.unusedVariables false
set_option linter.unusedSimpArgs false
open Go.ChangeShapes Go.WideShapes Go.RowKit

set_option maxHeartbeats 4000000 in
theorem gateSettles_hold (hF : CGFits) (hS : CGSettle) (hR : CGRelay) (n : Nat) (hn : n < 256) (M : Nat) (hM : 3 + (n : Int) % 6 = M) (f : Nat → Int) (hf : Bd12 f) (w : World) (hok : Vote.Ok M f) (h0 : 0 < f 10) :
    Calls Try.prog 5 #[.int .u8 n, .agg #[.int .i64 (f 0), .int .i64 (f 1), .int .i64 (f 2), .int .i64 (f 3), .int .i64 (f 4), .int .i64 (f 5), .int .i64 (f 6), .int .i64 (f 7), .int .i64 (f 8), .int .i64 (f 9), .int .i64 (f 10), .int .i64 (f 11)]] w fun e w' => e = .returned (.bool true) ∧ Below w.heap.size w w' := by
  have AW := Lib.hid (awake12_of hF hS hR)
  have bm : Bd (M : Int) := by have := hok.1; unfold Bd; omega
  have S1 := Lib.hid (fun w => hS M f w bm hf)
  have S2 := Lib.hid (fun w => hS M (Gate.settle M f) w bm (ok_bd (Gate.ok_settle hok)))
  have RR := Lib.hid (fun w => refVRight_any M f w)
  rw [Vote.ok_iff.2 hok] at RR
  rw [tickErr_yes (Vote.ok_iff.2 hok)] at S1
  rw [tickErr_yes (Vote.ok_iff.2 (Gate.ok_settle hok))] at S2
  have q0 := Gate.settle_again hok 0 (by decide)
  have q1 := Gate.settle_again hok 1 (by decide)
  have q2 := Gate.settle_again hok 2 (by decide)
  have q3 := Gate.settle_again hok 3 (by decide)
  have q4 := Gate.settle_again hok 4 (by decide)
  have q5 := Gate.settle_again hok 5 (by decide)
  have q6 := Gate.settle_again hok 6 (by decide)
  have q7 := Gate.settle_again hok 7 (by decide)
  have q8 := Gate.settle_again hok 8 (by decide)
  have q9 := Gate.settle_again hok 9 (by decide)
  have q10 := Gate.settle_again hok 10 (by decide)
  have q11 := Gate.settle_again hok 11 (by decide)
  simp only [q0, q1, q2, q3, q4, q5, q6, q7, q8, q9, q10, q11] at S2
  have E11 : Hid (Gate.settle M f 11 = f 11) := by show Gate.settle M f 11 = f 11; rw [Gate.settle_11 hok, if_pos h0]
  have G10 : f 10 ≤ Gate.settle M f 10 := by
    have := hok.2.2.2.2.1
    rw [Gate.settle_10 hok, if_pos h0]
    split <;> omega
  generalize Gate.settle M f = st at *
  clear hF hS hR bm q0 q1 q2 q3 q4 q5 q6 q7 q8 q9 q10 q11 hok hf 
  go_enter Try.func5, Try.ntmps5
  go_wp2_with fail
  have HX0 := Lib.hid (Ints.box w f 24)

  refine (RR.out _).mono ?_; rintro e w1 ⟨rfl, hb⟩; have hz := hb.size; (try simp only [World.size_alloc, World.heap_drewN, World.size_drew, World.size_setCell] at hz)
  have HB1 := Lib.hid (show Below w.heap.size w w1 from bel)
  have HX1 := Lib.hid (HX0.out.below hb)
  clear hb HX0
  have HX1_c0 := (HX1.out.2 0 (by decide)).1; have HX1_c1 := (HX1.out.2 1 (by decide)).1; have HX1_c2 := (HX1.out.2 2 (by decide)).1; have HX1_c3 := (HX1.out.2 3 (by decide)).1; have HX1_c4 := (HX1.out.2 4 (by decide)).1; have HX1_c5 := (HX1.out.2 5 (by decide)).1; have HX1_c6 := (HX1.out.2 6 (by decide)).1; have HX1_c7 := (HX1.out.2 7 (by decide)).1; have HX1_c8 := (HX1.out.2 8 (by decide)).1; have HX1_c9 := (HX1.out.2 9 (by decide)).1; have HX1_c10 := (HX1.out.2 10 (by decide)).1; have HX1_c11 := (HX1.out.2 11 (by decide)).1; have HX1_z := HX1.out.1
  go_wp2_with fail

  refine (S1.out _).mono ?_; rintro e w2 ⟨rfl, hb⟩; have hz := hb.size; (try simp only [World.size_alloc, World.heap_drewN, World.size_drew, World.size_setCell] at hz)
  have HB2 := Lib.hid (show Below w.heap.size w w2 from by have := HB1.out; exact bel)
  have HX2 := Lib.hid (HX1.out.below hb)
  clear hb HX1 HB1
  clear HX1_c0 HX1_c1 HX1_c2 HX1_c3 HX1_c4 HX1_c5 HX1_c6 HX1_c7 HX1_c8 HX1_c9 HX1_c10 HX1_c11 HX1_z
  go_wp2_with fail
  have HA2 := Lib.hid (Ints.box w2 st 24)

  refine (S2.out _).mono ?_; rintro e w3 ⟨rfl, hb⟩; have hz := hb.size; (try simp only [World.size_alloc, World.heap_drewN, World.size_drew, World.size_setCell] at hz)
  have HB3 := Lib.hid (show Below w.heap.size w w3 from by have := HB2.out; exact bel)
  have HX3 := Lib.hid ((HX2.out.alloc _).below hb)
  have HA3 := Lib.hid (HA2.out.below hb)
  clear hb HX2 HA2 HB2
  have EQ := hub_same st
  have HX3_c0 := (HX3.out.2 0 (by decide)).1; have HX3_c1 := (HX3.out.2 1 (by decide)).1; have HX3_c2 := (HX3.out.2 2 (by decide)).1; have HX3_c3 := (HX3.out.2 3 (by decide)).1; have HX3_c4 := (HX3.out.2 4 (by decide)).1; have HX3_c5 := (HX3.out.2 5 (by decide)).1; have HX3_c6 := (HX3.out.2 6 (by decide)).1; have HX3_c7 := (HX3.out.2 7 (by decide)).1; have HX3_c8 := (HX3.out.2 8 (by decide)).1; have HX3_c9 := (HX3.out.2 9 (by decide)).1; have HX3_c10 := (HX3.out.2 10 (by decide)).1; have HX3_c11 := (HX3.out.2 11 (by decide)).1; have HX3_z := HX3.out.1
  have HA3_c0 := (HA3.out.2 0 (by decide)).1; have HA3_c1 := (HA3.out.2 1 (by decide)).1; have HA3_c2 := (HA3.out.2 2 (by decide)).1; have HA3_c3 := (HA3.out.2 3 (by decide)).1; have HA3_c4 := (HA3.out.2 4 (by decide)).1; have HA3_c5 := (HA3.out.2 5 (by decide)).1; have HA3_c6 := (HA3.out.2 6 (by decide)).1; have HA3_c7 := (HA3.out.2 7 (by decide)).1; have HA3_c8 := (HA3.out.2 8 (by decide)).1; have HA3_c9 := (HA3.out.2 9 (by decide)).1; have HA3_c10 := (HA3.out.2 10 (by decide)).1; have HA3_c11 := (HA3.out.2 11 (by decide)).1; have HA3_z := HA3.out.1
  go_wp2_with fail
  refine (AW.out _).mono ?_; rintro e w4 ⟨rfl, hb⟩; have hz := hb.size; (try simp only [World.size_alloc, World.heap_drewN, World.size_drew, World.size_setCell] at hz)
  have HB4 := Lib.hid (show Below w.heap.size w w4 from by have := HB3.out; exact bel)
  have HX4 := Lib.hid ((HX3.out.alloc _).below hb)
  have HA4 := Lib.hid ((HA3.out.alloc _).below hb)
  clear hb HX3 HA3 HB3
  clear HX3_c0 HX3_c1 HX3_c2 HX3_c3 HX3_c4 HX3_c5 HX3_c6 HX3_c7 HX3_c8 HX3_c9 HX3_c10 HX3_c11 HX3_z
  clear HA3_c0 HA3_c1 HA3_c2 HA3_c3 HA3_c4 HA3_c5 HA3_c6 HA3_c7 HA3_c8 HA3_c9 HA3_c10 HA3_c11 HA3_z
  have x10 := (HX4.out.2 10 (by decide)).1
  have x11 := (HX4.out.2 11 (by decide)).1
  have a10 := (HA4.out.2 10 (by decide)).1
  have a11 := (HA4.out.2 11 (by decide)).1
  rw [E11.out] at a11
  have := HB4.out
  go_wp2
  go_ret
  exact ⟨rfl, bel⟩
set_option maxHeartbeats 4000000 in
theorem gateSettles_take (hF : CGFits) (hS : CGSettle) (hR : CGRelay) (n : Nat) (hn : n < 256) (M : Nat) (hM : 3 + (n : Int) % 6 = M) (f : Nat → Int) (hf : Bd12 f) (w : World) (hok : Vote.Ok M f) (h0 : ¬ 0 < f 10) (hv : 2 ≤ Vote.bestVotes M f) :
    Calls Try.prog 5 #[.int .u8 n, .agg #[.int .i64 (f 0), .int .i64 (f 1), .int .i64 (f 2), .int .i64 (f 3), .int .i64 (f 4), .int .i64 (f 5), .int .i64 (f 6), .int .i64 (f 7), .int .i64 (f 8), .int .i64 (f 9), .int .i64 (f 10), .int .i64 (f 11)]] w fun e w' => e = .returned (.bool true) ∧ Below w.heap.size w w' := by
  have AW := Lib.hid (awake12_of hF hS hR)
  have bm : Bd (M : Int) := by have := hok.1; unfold Bd; omega
  have S1 := Lib.hid (fun w => hS M f w bm hf)
  have S2 := Lib.hid (fun w => hS M (Gate.settle M f) w bm (ok_bd (Gate.ok_settle hok)))
  have RR := Lib.hid (fun w => refVRight_any M f w)
  rw [Vote.ok_iff.2 hok] at RR
  rw [tickErr_yes (Vote.ok_iff.2 hok)] at S1
  rw [tickErr_yes (Vote.ok_iff.2 (Gate.ok_settle hok))] at S2
  have q0 := Gate.settle_again hok 0 (by decide)
  have q1 := Gate.settle_again hok 1 (by decide)
  have q2 := Gate.settle_again hok 2 (by decide)
  have q3 := Gate.settle_again hok 3 (by decide)
  have q4 := Gate.settle_again hok 4 (by decide)
  have q5 := Gate.settle_again hok 5 (by decide)
  have q6 := Gate.settle_again hok 6 (by decide)
  have q7 := Gate.settle_again hok 7 (by decide)
  have q8 := Gate.settle_again hok 8 (by decide)
  have q9 := Gate.settle_again hok 9 (by decide)
  have q10 := Gate.settle_again hok 10 (by decide)
  have q11 := Gate.settle_again hok 11 (by decide)
  simp only [q0, q1, q2, q3, q4, q5, q6, q7, q8, q9, q10, q11] at S2
  have E11 : Hid (Gate.settle M f 11 = (Vote.best M f : Nat)) := by show Gate.settle M f 11 = _; rw [Gate.settle_11 hok, if_neg h0, if_pos hv]
  have E10 : Hid (Gate.settle M f 10 = 2 * M) := by show Gate.settle M f 10 = _; rw [Gate.settle_10 hok, if_neg h0, if_pos hv]
  have BE := Lib.hid (fun w => refVBest_any M f w)
  have VO := Lib.hid (fun w => refVVotes_any M (Gate.settle M f) (Vote.best M f : Nat) w)
  rw [Gate.votes_like (Gate.ok_settle hok) hok (fun j hj => Gate.settle_low hok j hj), Gate.votes_best hok] at VO
  have M3 := hok.1
  have hv2 : (2 : Int) ≤ Vote.bestVotes M f := by omega
  generalize Gate.settle M f = st at *
  generalize Vote.best M f = be at *
  generalize Vote.bestVotes M f = bv at *
  clear hF hS hR bm q0 q1 q2 q3 q4 q5 q6 q7 q8 q9 q10 q11 hok hf hv
  go_enter Try.func5, Try.ntmps5
  go_wp2_with fail
  have HX0 := Lib.hid (Ints.box w f 24)

  refine (RR.out _).mono ?_; rintro e w1 ⟨rfl, hb⟩; have hz := hb.size; (try simp only [World.size_alloc, World.heap_drewN, World.size_drew, World.size_setCell] at hz)
  have HB1 := Lib.hid (show Below w.heap.size w w1 from bel)
  have HX1 := Lib.hid (HX0.out.below hb)
  clear hb HX0
  have HX1_c0 := (HX1.out.2 0 (by decide)).1; have HX1_c1 := (HX1.out.2 1 (by decide)).1; have HX1_c2 := (HX1.out.2 2 (by decide)).1; have HX1_c3 := (HX1.out.2 3 (by decide)).1; have HX1_c4 := (HX1.out.2 4 (by decide)).1; have HX1_c5 := (HX1.out.2 5 (by decide)).1; have HX1_c6 := (HX1.out.2 6 (by decide)).1; have HX1_c7 := (HX1.out.2 7 (by decide)).1; have HX1_c8 := (HX1.out.2 8 (by decide)).1; have HX1_c9 := (HX1.out.2 9 (by decide)).1; have HX1_c10 := (HX1.out.2 10 (by decide)).1; have HX1_c11 := (HX1.out.2 11 (by decide)).1; have HX1_z := HX1.out.1
  go_wp2_with fail

  refine (S1.out _).mono ?_; rintro e w2 ⟨rfl, hb⟩; have hz := hb.size; (try simp only [World.size_alloc, World.heap_drewN, World.size_drew, World.size_setCell] at hz)
  have HB2 := Lib.hid (show Below w.heap.size w w2 from by have := HB1.out; exact bel)
  have HX2 := Lib.hid (HX1.out.below hb)
  clear hb HX1 HB1
  clear HX1_c0 HX1_c1 HX1_c2 HX1_c3 HX1_c4 HX1_c5 HX1_c6 HX1_c7 HX1_c8 HX1_c9 HX1_c10 HX1_c11 HX1_z
  go_wp2_with fail
  have HA2 := Lib.hid (Ints.box w2 st 24)

  refine (S2.out _).mono ?_; rintro e w3 ⟨rfl, hb⟩; have hz := hb.size; (try simp only [World.size_alloc, World.heap_drewN, World.size_drew, World.size_setCell] at hz)
  have HB3 := Lib.hid (show Below w.heap.size w w3 from by have := HB2.out; exact bel)
  have HX3 := Lib.hid ((HX2.out.alloc _).below hb)
  have HA3 := Lib.hid (HA2.out.below hb)
  clear hb HX2 HA2 HB2
  have EQ := hub_same st
  have HX3_c0 := (HX3.out.2 0 (by decide)).1; have HX3_c1 := (HX3.out.2 1 (by decide)).1; have HX3_c2 := (HX3.out.2 2 (by decide)).1; have HX3_c3 := (HX3.out.2 3 (by decide)).1; have HX3_c4 := (HX3.out.2 4 (by decide)).1; have HX3_c5 := (HX3.out.2 5 (by decide)).1; have HX3_c6 := (HX3.out.2 6 (by decide)).1; have HX3_c7 := (HX3.out.2 7 (by decide)).1; have HX3_c8 := (HX3.out.2 8 (by decide)).1; have HX3_c9 := (HX3.out.2 9 (by decide)).1; have HX3_c10 := (HX3.out.2 10 (by decide)).1; have HX3_c11 := (HX3.out.2 11 (by decide)).1; have HX3_z := HX3.out.1
  have HA3_c0 := (HA3.out.2 0 (by decide)).1; have HA3_c1 := (HA3.out.2 1 (by decide)).1; have HA3_c2 := (HA3.out.2 2 (by decide)).1; have HA3_c3 := (HA3.out.2 3 (by decide)).1; have HA3_c4 := (HA3.out.2 4 (by decide)).1; have HA3_c5 := (HA3.out.2 5 (by decide)).1; have HA3_c6 := (HA3.out.2 6 (by decide)).1; have HA3_c7 := (HA3.out.2 7 (by decide)).1; have HA3_c8 := (HA3.out.2 8 (by decide)).1; have HA3_c9 := (HA3.out.2 9 (by decide)).1; have HA3_c10 := (HA3.out.2 10 (by decide)).1; have HA3_c11 := (HA3.out.2 11 (by decide)).1; have HA3_z := HA3.out.1
  go_wp2_with fail

  refine (BE.out _).mono ?_; rintro e w4 ⟨rfl, hb⟩; have hz := hb.size; (try simp only [World.size_alloc, World.heap_drewN, World.size_drew, World.size_setCell] at hz)
  have HB4 := Lib.hid (show Below w.heap.size w w4 from by have := HB3.out; exact bel)
  have HX4 := Lib.hid ((HX3.out.alloc _).below hb)
  have HA4 := Lib.hid ((HA3.out.alloc _).below hb)
  clear hb HX3 HA3 HB3
  clear HX3_c0 HX3_c1 HX3_c2 HX3_c3 HX3_c4 HX3_c5 HX3_c6 HX3_c7 HX3_c8 HX3_c9 HX3_c10 HX3_c11 HX3_z
  clear HA3_c0 HA3_c1 HA3_c2 HA3_c3 HA3_c4 HA3_c5 HA3_c6 HA3_c7 HA3_c8 HA3_c9 HA3_c10 HA3_c11 HA3_z
  go_wp2_with fail
  refine (AW.out _).mono ?_; rintro e w5 ⟨rfl, hb⟩; have hz := hb.size; (try simp only [World.size_alloc, World.heap_drewN, World.size_drew, World.size_setCell] at hz)
  have HB5 := Lib.hid (show Below w.heap.size w w5 from by have := HB4.out; exact bel)
  have HA5 := Lib.hid (HA4.out.below hb)
  clear hb HX4 HA4 HB4
  have HA5_c0 := (HA5.out.2 0 (by decide)).1; have HA5_c1 := (HA5.out.2 1 (by decide)).1; have HA5_c2 := (HA5.out.2 2 (by decide)).1; have HA5_c3 := (HA5.out.2 3 (by decide)).1; have HA5_c4 := (HA5.out.2 4 (by decide)).1; have HA5_c5 := (HA5.out.2 5 (by decide)).1; have HA5_c6 := (HA5.out.2 6 (by decide)).1; have HA5_c7 := (HA5.out.2 7 (by decide)).1; have HA5_c8 := (HA5.out.2 8 (by decide)).1; have HA5_c9 := (HA5.out.2 9 (by decide)).1; have HA5_c10 := (HA5.out.2 10 (by decide)).1; have HA5_c11 := (HA5.out.2 11 (by decide)).1; have HA5_z := HA5.out.1
  simp only [E10.out, E11.out] at HA5_c10 HA5_c11
  simp only [E10.out, E11.out] at VO
  have hp : (0 : Int) < 2 * M := by omega
  have hp2 : ((2 * (M : Int)) == 0) = false := by simp; omega
  go_wp2_with fail

  refine (VO.out _).mono ?_; rintro e w6 ⟨rfl, hb⟩; have hz := hb.size; (try simp only [World.size_alloc, World.heap_drewN, World.size_drew, World.size_setCell] at hz)
  have := HB5.out
  go_wp2
  go_ret
  exact ⟨rfl, bel⟩
end Go.Proofs.Ytijgabippedhpaa
