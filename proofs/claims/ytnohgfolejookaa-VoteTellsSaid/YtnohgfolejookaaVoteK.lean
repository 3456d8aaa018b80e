
import Derived.Test.YtnohgfolejookaaRows
import Derived.Test.YtnohgfolejookaaVoteI
namespace Go.Proofs.Ytnohgfolejookaa
set_option linter.unusedVariables false
set_option linter.unusedSimpArgs false
open Go.ChangeShapes Go.WideShapes Go.RowKit

theorem sum_next (n : Int) (f : Nat → Int) (K : Nat) : Vote.sum n f (K + 1) = Vote.sum n f K + Vote.votes n f (K : Nat) := rfl
set_option maxHeartbeats 4000000 in
theorem voteFew_of (hF : CFresh) (hC : CClean) (hR : CRight) (hT : CTick) (hV : CVotes) (hBest : CBest) (n : Nat) (hn : n < 256) (f : Nat → Int) (hf : Bd12 f) (w : World) :
    Calls Try.prog 4 #[.int .u8 n, .agg #[.int .i64 (f 0), .int .i64 (f 1), .int .i64 (f 2), .int .i64 (f 3), .int .i64 (f 4), .int .i64 (f 5), .int .i64 (f 6), .int .i64 (f 7), .int .i64 (f 8), .int .i64 (f 9), .int .i64 (f 10), .int .i64 (f 11)]] w fun e w' => e = .returned (.bool true) ∧ Below w.heap.size w w' := by
  go_enter Try.func4, Try.ntmps4
  go_wp2_with fail
  have HX0 := Lib.hid (Ints.box w f 24)
  have m3 : (3 : Int) ≤ 3 + (n : Int) % 6 := by omega
  have m8 : 3 + (n : Int) % 6 ≤ 8 := by omega
  generalize 3 + (n : Int) % 6 = Mi at *
  obtain ⟨M, rfl⟩ := Int.eq_ofNat_of_zero_le (show 0 ≤ Mi by omega)
  have hr : Conf.right M = true := Conf.right_spec.2 (by omega)
  have bm : Bd (M : Int) := by unfold Bd; omega
  have ok1 := Vote.ok_clean f hr
  have ok2 := Vote.ok_tick ok1
  have AW := Lib.hid (awake11_of hF hBest)
  have C1 := Lib.hid (fun w => hC M f w bm hf)
  rw [Vote.err_yes hr] at C1
  have T1 := Lib.hid (fun w => hT M (Vote.clean M f) w bm (ok_bd ok1))
  rw [tickErr_yes (Vote.ok_iff.2 ok1)] at T1
  have R1 := Lib.hid (fun w => hR M (Vote.clean M f) w bm (ok_bd ok1))
  rw [Vote.ok_iff.2 ok1] at R1
  have R2 := Lib.hid (fun w => hR M (Vote.tick M (Vote.clean M f)) w bm (ok_bd ok2))
  rw [Vote.ok_iff.2 ok2] at R2
  have VT := Lib.hid (fun v hv => Vote.votes_later ok1 (v := v) hv)
  have V1 := Lib.hid (fun v w hv => hV M (Vote.clean M f) v w bm (ok_bd ok1) hv)
  have V2 := Lib.hid (fun v w hv => hV M (Vote.tick M (Vote.clean M f)) v w bm (ok_bd ok2) hv)
  have B1 := Lib.hid (fun w => hBest M (Vote.clean M f) w bm (ok_bd ok1))
  have BF := Lib.hid (Vote.best_facts ok1)
  have SL := Lib.hid (fun K => Vote.sum_le ok1 K)
  have SN := Lib.hid (fun K => sum_next M (Vote.clean M f) K)
  generalize Vote.tick M (Vote.clean M f) = d at *
  generalize Vote.clean M f = c at *
  clear hF hC hR hT hV hBest hr ok1 ok2 hf
  refine (C1.out _).mono ?_; rintro e w1 ⟨rfl, hb⟩; have hz := hb.size; (try simp only [World.size_alloc, World.heap_drewN, World.size_drew, World.size_setCell] at hz)
  have HB1 := Lib.hid (show Below w.heap.size w w1 from bel)
  clear hb HX0
  go_wp2_with fail
  have HC1 := Lib.hid (Ints.box w1 c 24)
  refine (T1.out _).mono ?_; rintro e w2 ⟨rfl, hb⟩; have hz := hb.size; (try simp only [World.size_alloc, World.heap_drewN, World.size_drew, World.size_setCell] at hz)
  have HB2 := Lib.hid (show Below w.heap.size w w2 from by have := HB1.out; exact bel)
  have HC2 := Lib.hid (HC1.out.below hb)
  clear hb HC1 HB1
  have HC2_c0 := (HC2.out.2 0 (by decide)).1; have HC2_c1 := (HC2.out.2 1 (by decide)).1; have HC2_c2 := (HC2.out.2 2 (by decide)).1; have HC2_c3 := (HC2.out.2 3 (by decide)).1; have HC2_c4 := (HC2.out.2 4 (by decide)).1; have HC2_c5 := (HC2.out.2 5 (by decide)).1; have HC2_c6 := (HC2.out.2 6 (by decide)).1; have HC2_c7 := (HC2.out.2 7 (by decide)).1; have HC2_c8 := (HC2.out.2 8 (by decide)).1; have HC2_c9 := (HC2.out.2 9 (by decide)).1; have HC2_c10 := (HC2.out.2 10 (by decide)).1; have HC2_c11 := (HC2.out.2 11 (by decide)).1; have HC2_z := HC2.out.1
  go_wp2_with fail
  have HD2 := Lib.hid (Ints.box w2 d 24)
  refine (R1.out _).mono ?_; rintro e w3 ⟨rfl, hb⟩; have hz := hb.size; (try simp only [World.size_alloc, World.heap_drewN, World.size_drew, World.size_setCell] at hz)
  have HB3 := Lib.hid (show Below w.heap.size w w3 from by have := HB2.out; exact bel)
  have HC3 := Lib.hid ((HC2.out.alloc _).below hb)
  have HD3 := Lib.hid (HD2.out.below hb)
  clear hb HC2 HB2 HD2
  clear HC2_c0 HC2_c1 HC2_c2 HC2_c3 HC2_c4 HC2_c5 HC2_c6 HC2_c7 HC2_c8 HC2_c9 HC2_c10 HC2_c11 HC2_z
  have HD3_c0 := (HD3.out.2 0 (by decide)).1; have HD3_c1 := (HD3.out.2 1 (by decide)).1; have HD3_c2 := (HD3.out.2 2 (by decide)).1; have HD3_c3 := (HD3.out.2 3 (by decide)).1; have HD3_c4 := (HD3.out.2 4 (by decide)).1; have HD3_c5 := (HD3.out.2 5 (by decide)).1; have HD3_c6 := (HD3.out.2 6 (by decide)).1; have HD3_c7 := (HD3.out.2 7 (by decide)).1; have HD3_c8 := (HD3.out.2 8 (by decide)).1; have HD3_c9 := (HD3.out.2 9 (by decide)).1; have HD3_c10 := (HD3.out.2 10 (by decide)).1; have HD3_c11 := (HD3.out.2 11 (by decide)).1; have HD3_z := HD3.out.1
  go_wp2_with fail
  refine (R2.out _).mono ?_; rintro e w4 ⟨rfl, hb⟩; have hz := hb.size; (try simp only [World.size_alloc, World.heap_drewN, World.size_drew, World.size_setCell] at hz)
  have HB4 := Lib.hid (show Below w.heap.size w w4 from by have := HB3.out; exact bel)
  have HC4 := Lib.hid (HC3.out.below hb)
  have HD4 := Lib.hid (HD3.out.below hb)
  clear hb HC3 HB3 HD3
  clear HD3_c0 HD3_c1 HD3_c2 HD3_c3 HD3_c4 HD3_c5 HD3_c6 HD3_c7 HD3_c8 HD3_c9 HD3_c10 HD3_c11 HD3_z
  go_wp2_with fail
  go_loopw [10, 11] (fun a k wr => ∃ K : Nat, K ≤ M ∧ k = .int .i64 K ∧ a = .int .i64 (Vote.sum M c K : Nat) ∧ Ints wr w1.heap.size 12 c ∧ Ints wr w2.heap.size 12 d ∧ Below w.heap.size w wr) (fun _ k _ => M - (intOf k).toNat)
  case atStart => exact ⟨0, by omega, rfl, rfl, HC4.out, HD4.out, HB4.out⟩
  case round =>
    clear HC4 HD4 HB4
    obtain ⟨K, hK, rfl, rfl, hC, hD, hb⟩ := hrel
    have HB := Lib.hid hb
    have HC := Lib.hid hC
    have HD := Lib.hid hD
    have sl := SL.out K
    clear hb hC hD
    have HC_c0 := (HC.out.2 0 (by decide)).1; have HC_c1 := (HC.out.2 1 (by decide)).1; have HC_c2 := (HC.out.2 2 (by decide)).1; have HC_c3 := (HC.out.2 3 (by decide)).1; have HC_c4 := (HC.out.2 4 (by decide)).1; have HC_c5 := (HC.out.2 5 (by decide)).1; have HC_c6 := (HC.out.2 6 (by decide)).1; have HC_c7 := (HC.out.2 7 (by decide)).1; have HC_c8 := (HC.out.2 8 (by decide)).1; have HC_c9 := (HC.out.2 9 (by decide)).1; have HC_c10 := (HC.out.2 10 (by decide)).1; have HC_c11 := (HC.out.2 11 (by decide)).1; have HC_z := HC.out.1
    by_cases hlt : K < M
    · have h1 : (K : Int) < M := by omega
      have h0 : (0 : Int) ≤ K := by omega
      have hvt := VT.out K ⟨h0, h1⟩
      have sn := SN.out K
      have sl2 := SL.out (K + 1)
      have SN2 := Lib.hid sn
      have x1 := Int.emod_nonneg ((K : Int) + 1) (show (M : Int) ≠ 0 by omega)
      have x2 := Int.emod_lt_of_pos ((K : Int) + 1) (show (0 : Int) < M by omega)
      have V1K := Lib.hid (fun w => V1.out K w (by unfold Bd; omega))
      have V2K := Lib.hid (fun w => V2.out (((K : Int) + 1) % M) w (by unfold Bd; omega))
      have t1 : Int.tmod ((K : Int) + 1) M = ((K : Int) + 1) % M := Int.tmod_eq_emod_of_nonneg (by omega)
      generalize hq : ((K : Int) + 1) % (M : Int) = q at *
      have t2 : ((M : Int) == 0) = false := by simp; omega
      have s1 : IntKind.i64.wrap ((K : Int) + 1) = K + 1 := IntWalk.i64_in _ (by omega)
      generalize Vote.votes M c (K : Nat) = y1 at *
      generalize Vote.votes M d q = y2 at *
      have sl3 : ((Vote.sum M c K : Nat) : Int) + y1 ≤ M + 1 := by omega
      clear sl2 sn hq
      go_wp2_with fail
      refine (V1K.out _).mono ?_; rintro e w5 ⟨rfl, hb⟩; have hz := hb.size; (try simp only [World.size_alloc, World.heap_drewN, World.size_drew, World.size_setCell] at hz)
      have HB5 := Lib.hid (show Below w.heap.size w w5 from by have := HB.out; exact bel)
      have HC5 := Lib.hid (HC.out.below hb)
      have HD5 := Lib.hid (HD.out.below hb)
      clear hb HB HC HD
      clear HC_c0 HC_c1 HC_c2 HC_c3 HC_c4 HC_c5 HC_c6 HC_c7 HC_c8 HC_c9 HC_c10 HC_c11 HC_z
      go_upto_region 12 with fail
      refine region_below (by kernel_rfl) (by kernel_rfl) ?_; intro wR HW
      have HBR := Lib.hid (show Below w.heap.size w wR from by have := HB5.out; rw [← HW.out]; exact bel)
      have HCR := Lib.hid (show Ints wR w1.heap.size 12 c from by rw [← HW.out]; exact HC5.out)
      have HDR := Lib.hid (show Ints wR w2.heap.size 12 d from by rw [← HW.out]; exact HD5.out)
      clear HB5 HC5 HD5
      have HDR_c0 := (HDR.out.2 0 (by decide)).1; have HDR_c1 := (HDR.out.2 1 (by decide)).1; have HDR_c2 := (HDR.out.2 2 (by decide)).1; have HDR_c3 := (HDR.out.2 3 (by decide)).1; have HDR_c4 := (HDR.out.2 4 (by decide)).1; have HDR_c5 := (HDR.out.2 5 (by decide)).1; have HDR_c6 := (HDR.out.2 6 (by decide)).1; have HDR_c7 := (HDR.out.2 7 (by decide)).1; have HDR_c8 := (HDR.out.2 8 (by decide)).1; have HDR_c9 := (HDR.out.2 9 (by decide)).1; have HDR_c10 := (HDR.out.2 10 (by decide)).1; have HDR_c11 := (HDR.out.2 11 (by decide)).1; have HDR_z := HDR.out.1
      replace HDR_c0 := cell_regrown HDR_c0; replace HDR_c1 := cell_regrown HDR_c1; replace HDR_c2 := cell_regrown HDR_c2; replace HDR_c3 := cell_regrown HDR_c3; replace HDR_c4 := cell_regrown HDR_c4; replace HDR_c5 := cell_regrown HDR_c5; replace HDR_c6 := cell_regrown HDR_c6; replace HDR_c7 := cell_regrown HDR_c7; replace HDR_c8 := cell_regrown HDR_c8; replace HDR_c9 := cell_regrown HDR_c9; replace HDR_c10 := cell_regrown HDR_c10; replace HDR_c11 := cell_regrown HDR_c11
      (repeat (first | go_big_quiet_step (first | with_reducible exact Calls.regrown_of (V2K.out _)) | quiet_step (first | with_reducible exact Calls.regrown_of (V2K.out _)))); refine wpQuiet_nil ?_; intro w6 hb
      have HB6 := Lib.hid (show Below w.heap.size w w6 from by have := HBR.out; exact bthru hb this)
      have HC6 := Lib.hid (HCR.out.below hb)
      have HD6 := Lib.hid (HDR.out.below hb)
      clear hb HBR HCR HDR
      clear HDR_c0 HDR_c1 HDR_c2 HDR_c3 HDR_c4 HDR_c5 HDR_c6 HDR_c7 HDR_c8 HDR_c9 HDR_c10 HDR_c11 HDR_z
      go_wp2
      go_roundw
      case rel => exact ⟨K + 1, by omega, by go_num, by rw [SN2.out]; go_num, HC6.out, HD6.out, HB6.out⟩
      case measure => simp [intOf]; omega
    · obtain rfl : K = M := by omega
      obtain ⟨bf1, bf2⟩ := BF.out
      generalize Vote.sum K c K = sm at *
      generalize Vote.bestVotes K c = bv at *
      generalize Vote.best K c = be at *
      go_wp2_with fail
      refine (B1.out _).mono ?_; rintro e w5 ⟨rfl, hb⟩; have hz := hb.size; (try simp only [World.size_alloc, World.heap_drewN, World.size_drew, World.size_setCell] at hz)
      have HB5 := Lib.hid (show Below w.heap.size w w5 from by have := HB.out; exact bel)
      clear hb HB HC HD
      clear HC_c0 HC_c1 HC_c2 HC_c3 HC_c4 HC_c5 HC_c6 HC_c7 HC_c8 HC_c9 HC_c10 HC_c11 HC_z
      go_wp2_with fail
      refine (AW.out _).mono ?_; rintro e w6 ⟨rfl, hb⟩; have hz := hb.size; (try simp only [World.size_alloc, World.heap_drewN, World.size_drew, World.size_setCell] at hz)
      have := HB5.out
      have i1 : (sm : Int) ≤ K + 1 := by omega
      have i2 : (bv : Int) ≤ K := by omega
      have i3 : (bv : Int) ≤ sm := by omega
      go_wp2
      go_ret
      exact ⟨rfl, bel⟩
end Go.Proofs.Ytnohgfolejookaa
