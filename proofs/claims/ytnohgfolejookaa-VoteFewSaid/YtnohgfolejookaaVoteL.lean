
import Derived.Test.YtnohgfolejookaaRows
import Derived.Test.YtnohgfolejookaaVoteI
namespace Go.Proofs.Ytnohgfolejookaa
set_option linter.unusedVariables false
set_option linter.unusedSimpArgs false
open Go.ChangeShapes Go.WideShapes Go.RowKit

set_option maxHeartbeats 4000000 in
theorem voteEnds_of (hF : CFresh) (hC : CClean) (hT : CTick) (hBest : CBest) (n : Nat) (hn : n < 256) (f : Nat → Int) (hf : Bd12 f) (w : World) :
    Calls Try.prog 5 #[.int .u8 n, .agg #[.int .i64 (f 0), .int .i64 (f 1), .int .i64 (f 2), .int .i64 (f 3), .int .i64 (f 4), .int .i64 (f 5), .int .i64 (f 6), .int .i64 (f 7), .int .i64 (f 8), .int .i64 (f 9), .int .i64 (f 10), .int .i64 (f 11)]] w fun e w' => e = .returned (.bool true) ∧ Below w.heap.size w w' := by
  go_enter Try.func5, Try.ntmps5
  go_wp2_with fail
  have m3 : (3 : Int) ≤ 3 + (n : Int) % 6 := by omega
  have m8 : 3 + (n : Int) % 6 ≤ 8 := by omega
  generalize 3 + (n : Int) % 6 = Mi at *
  obtain ⟨M, rfl⟩ := Int.eq_ofNat_of_zero_le (show 0 ≤ Mi by omega)
  have hr : Conf.right M = true := Conf.right_spec.2 (by omega)
  have bm : Bd (M : Int) := by unfold Bd; omega
  have ok1 := Vote.ok_clean f hr
  have AW := Lib.hid (awake11_of hF hBest)
  have C1 := Lib.hid (fun w => hC M f w bm hf)
  rw [Vote.err_yes hr] at C1
  have T1 := Lib.hid (fun g w (hg : Vote.Ok M g) => hT M g w bm (ok_bd hg))
  have B1 := Lib.hid (fun g w (hg : Vote.Ok M g) => hBest M g w bm (ok_bd hg))
  have OK := Lib.hid ok1
  generalize Vote.clean M f = c at *
  clear hF hC hT hBest hr ok1 hf
  refine (C1.out _).mono ?_; rintro e w1 ⟨rfl, hb⟩; have hz := hb.size; (try simp only [World.size_alloc, World.heap_drewN, World.size_drew, World.size_setCell] at hz)
  have HB1 := Lib.hid (show Below w.heap.size w w1 from bel)
  clear hb
  go_wp2_with fail
  have HC1 := Lib.hid (Ints.box w1 c 24)
  have HB2 := Lib.hid (show Below w.heap.size w (w1.alloc (.cells #[.int .i64 (c 0), .int .i64 (c 1), .int .i64 (c 2), .int .i64 (c 3), .int .i64 (c 4), .int .i64 (c 5), .int .i64 (c 6), .int .i64 (c 7), .int .i64 (c 8), .int .i64 (c 9), .int .i64 (c 10), .int .i64 (c 11)] 24)) from by have := HB1.out; exact bel)
  go_loopw [9] (fun k wr => ∃ K : Nat, K ≤ 2 * M ∧ k = .int .i64 K ∧ ∃ g, Vote.Later M c K g ∧ Ints wr w1.heap.size 12 g ∧ Below w.heap.size w wr) (fun k _ => 2 * M - (intOf k).toNat)
  case atStart => exact ⟨0, by omega, rfl, c, Vote.Later.zero OK.out, HC1.out, HB2.out⟩
  case round =>
    clear HC1 HB2
    obtain ⟨K, hK, rfl, g, hL, hI, hb⟩ := hrel
    have HB := Lib.hid hb
    have HI := Lib.hid hI
    have HL := Lib.hid hL
    clear hb hI hL
    by_cases hlt : K < 2 * M
    · have h1 : (K : Int) < 2 * M := by omega
      have h0 : (0 : Int) ≤ K := by omega
      have T2 := Lib.hid (fun w => T1.out g w HL.out.ok)
      rw [tickErr_yes (Vote.ok_iff.2 HL.out.ok)] at T2
      have HL2 := Lib.hid HL.out.next
      generalize Vote.tick M g = d at *
      have HI_c0 := (HI.out.2 0 (by decide)).1; have HI_c1 := (HI.out.2 1 (by decide)).1; have HI_c2 := (HI.out.2 2 (by decide)).1; have HI_c3 := (HI.out.2 3 (by decide)).1; have HI_c4 := (HI.out.2 4 (by decide)).1; have HI_c5 := (HI.out.2 5 (by decide)).1; have HI_c6 := (HI.out.2 6 (by decide)).1; have HI_c7 := (HI.out.2 7 (by decide)).1; have HI_c8 := (HI.out.2 8 (by decide)).1; have HI_c9 := (HI.out.2 9 (by decide)).1; have HI_c10 := (HI.out.2 10 (by decide)).1; have HI_c11 := (HI.out.2 11 (by decide)).1; have HI_z := HI.out.1
      go_wp2_with fail
      refine (T2.out _).mono ?_; rintro e w2 ⟨rfl, hb⟩; have hz := hb.size; (try simp only [World.size_alloc, World.heap_drewN, World.size_drew, World.size_setCell] at hz)
      have HB2 := Lib.hid (show Below w.heap.size w w2 from by have := HB.out; exact bel)
      have HI2 := Lib.hid (HI.out.below hb)
      clear hb HB HI HL
      clear HI_c0 HI_c1 HI_c2 HI_c3 HI_c4 HI_c5 HI_c6 HI_c7 HI_c8 HI_c9 HI_c10 HI_c11 HI_z
      have HI2_r := HI2.out.row12; have HI2_c0 := (HI2.out.2 0 (by decide)).1; have HI2_f0 := (HI2.out.2 0 (by decide)).2; have HI2_c1 := (HI2.out.2 1 (by decide)).1; have HI2_f1 := (HI2.out.2 1 (by decide)).2; have HI2_c2 := (HI2.out.2 2 (by decide)).1; have HI2_f2 := (HI2.out.2 2 (by decide)).2; have HI2_c3 := (HI2.out.2 3 (by decide)).1; have HI2_f3 := (HI2.out.2 3 (by decide)).2; have HI2_c4 := (HI2.out.2 4 (by decide)).1; have HI2_f4 := (HI2.out.2 4 (by decide)).2; have HI2_c5 := (HI2.out.2 5 (by decide)).1; have HI2_f5 := (HI2.out.2 5 (by decide)).2; have HI2_c6 := (HI2.out.2 6 (by decide)).1; have HI2_f6 := (HI2.out.2 6 (by decide)).2; have HI2_c7 := (HI2.out.2 7 (by decide)).1; have HI2_f7 := (HI2.out.2 7 (by decide)).2; have HI2_c8 := (HI2.out.2 8 (by decide)).1; have HI2_f8 := (HI2.out.2 8 (by decide)).2; have HI2_c9 := (HI2.out.2 9 (by decide)).1; have HI2_f9 := (HI2.out.2 9 (by decide)).2; have HI2_c10 := (HI2.out.2 10 (by decide)).1; have HI2_f10 := (HI2.out.2 10 (by decide)).2; have HI2_c11 := (HI2.out.2 11 (by decide)).1; have HI2_f11 := (HI2.out.2 11 (by decide)).2; have HI2_z := HI2.out.1
      go_upto_region 10 with fail
      generalize hw3 : World.setCell _ _ _ = w3
      have HI3 := Lib.hid (show Ints w3 w1.heap.size 12 d from by rw [← hw3]; exact HI2.out.set12 d)
      have HB3 := Lib.hid (show Below w.heap.size w w3 from by have := HB2.out; have := HB1.out.size; rw [← hw3]; exact bel)
      clear hw3 HI2 HB2 HI2_r HI2_f0 HI2_f1 HI2_f2 HI2_f3 HI2_f4 HI2_f5 HI2_f6 HI2_f7 HI2_f8 HI2_f9 HI2_f10 HI2_f11
      clear HI2_c0 HI2_c1 HI2_c2 HI2_c3 HI2_c4 HI2_c5 HI2_c6 HI2_c7 HI2_c8 HI2_c9 HI2_c10 HI2_c11 HI2_z
      go_wp2
      go_roundw
      case rel => exact ⟨K + 1, by omega, by go_num, d, HL2.out, HI3.out, HB3.out⟩
      case measure => simp [intOf]; omega
    · obtain rfl : K = 2 * M := by omega
      have h1 : ¬ (((2 * M : Nat) : Int) < 2 * M) := by omega
      obtain ⟨e1, e2, e3⟩ := Vote.Later.ends OK.out HL.out
      have B2 := Lib.hid (fun w => B1.out g w HL.out.ok)
      rw [e1] at B2
      have E2 := Lib.hid e2
      have E3 := Lib.hid e3
      clear e1 e2 e3
      generalize Vote.best M g = be at *
      have HI_c0 := (HI.out.2 0 (by decide)).1; have HI_c1 := (HI.out.2 1 (by decide)).1; have HI_c2 := (HI.out.2 2 (by decide)).1; have HI_c3 := (HI.out.2 3 (by decide)).1; have HI_c4 := (HI.out.2 4 (by decide)).1; have HI_c5 := (HI.out.2 5 (by decide)).1; have HI_c6 := (HI.out.2 6 (by decide)).1; have HI_c7 := (HI.out.2 7 (by decide)).1; have HI_c8 := (HI.out.2 8 (by decide)).1; have HI_c9 := (HI.out.2 9 (by decide)).1; have HI_c10 := (HI.out.2 10 (by decide)).1; have HI_c11 := (HI.out.2 11 (by decide)).1; have HI_z := HI.out.1
      go_wp2_with fail
      refine (B2.out _).mono ?_; rintro e w2 ⟨rfl, hb⟩; have hz := hb.size; (try simp only [World.size_alloc, World.heap_drewN, World.size_drew, World.size_setCell] at hz)
      have HB2 := Lib.hid (show Below w.heap.size w w2 from by have := HB.out; exact bel)
      have HI2 := Lib.hid (HI.out.below hb)
      clear hb HB HI
      clear HI_c0 HI_c1 HI_c2 HI_c3 HI_c4 HI_c5 HI_c6 HI_c7 HI_c8 HI_c9 HI_c10 HI_c11 HI_z
      go_wp2_with fail
      refine (AW.out _).mono ?_; rintro e w3 ⟨rfl, hb⟩; have hz := hb.size; (try simp only [World.size_alloc, World.heap_drewN, World.size_drew, World.size_setCell] at hz)
      have HB3 := Lib.hid (show Below w.heap.size w w3 from by have := HB2.out; exact bel)
      have HI3 := Lib.hid (HI2.out.below hb)
      clear hb HI2 HB2
      have c10 := (HI3.out.2 10 (by decide)).1
      have c11 := (HI3.out.2 11 (by decide)).1
      rw [E2.out] at c10
      rw [E3.out] at c11
      have := HB3.out
      go_wp2
      go_ret
      exact ⟨rfl, bel⟩
end Go.Proofs.Ytnohgfolejookaa
