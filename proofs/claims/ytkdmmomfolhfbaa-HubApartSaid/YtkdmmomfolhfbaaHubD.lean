
import Derived.Test.YtkdmmomfolhfbaaRows
import Derived.Test.YtkdmmomfolhfbaaHubK
import Derived.Test.YtkdmmomfolhfbaaPortA
namespace Go.Proofs.Ytkdmmomfolhfbaa
set_option linter.unusedVariables false
set_option linter.unusedSimpArgs false
open Go.ChangeShapes Go.WideShapes Go.RowKit

theorem fits_zero {m : Nat} (h : 3 ≤ (m : Int) ∧ (m : Int) ≤ 8) : Gate.Fits m m (fun _ => 0) := ⟨h, rfl, fun p hp => Or.inl ⟨rfl, rfl⟩⟩
def oneCs (p j : Nat) : Int := if j = p * 2 + 1 then (p : Int) else if j = p * 2 then 1 else 0
theorem oneCs_fits {m p : Nat} (h : 3 ≤ (m : Int) ∧ (m : Int) ≤ 8) (hp : p < m) : Gate.Fits m m (oneCs p) := by
  refine ⟨h, rfl, fun q hq => ?_⟩
  unfold Gate.At oneCs
  by_cases e : q = p
  · subst e
    right
    rw [if_neg (by omega), if_pos rfl, if_pos rfl]
    exact ⟨Or.inl rfl, rfl⟩
  · left
    rw [if_neg (by omega), if_neg (by omega), if_neg (by omega), if_neg (by omega)]
    exact ⟨rfl, rfl⟩
theorem oneCs_0 (p : Nat) : oneCs p (p * 2) = 1 := by unfold oneCs; rw [if_neg (by omega), if_pos rfl]
theorem oneCs_1 (p : Nat) : oneCs p (p * 2 + 1) = p := if_pos rfl
theorem oneCs_no (p q : Nat) (h : q ≠ p) : oneCs p (q * 2) = 0 := by unfold oneCs; rw [if_neg (by omega), if_neg (by omega)]
set_option maxHeartbeats 8000000 in
theorem hubForgets_in (hS : CHStep) (n : Nat) (hn : n < 256) (who : Nat) (hwho : who < 256) (M : Nat) (hM : 3 + (n : Int) % 6 = M) (f : Nat → Int) (hf : Bd12 f) (w : World) (hok : Vote.Ok M f) :
    Calls Try.prog 6 #[.int .u8 n, .agg #[.int .i64 (f 0), .int .i64 (f 1), .int .i64 (f 2), .int .i64 (f 3), .int .i64 (f 4), .int .i64 (f 5), .int .i64 (f 6), .int .i64 (f 7), .int .i64 (f 8), .int .i64 (f 9), .int .i64 (f 10), .int .i64 (f 11)], .int .u8 who] w fun e w' => e = .returned (.bool true) ∧ Below w.heap.size w w' := by
  have h38 := hok.1
  have AW := Lib.hid (awake13_of hS)
  have bm : Bd (M : Int) := by unfold Bd; omega
  have RR := Lib.hid (fun w => refVRight_any M f w)
  rw [Vote.ok_iff.2 hok] at RR
  have HS0 := Lib.hid (Hub.Silent.zero hok)
  have ST := Lib.hid (fun g va l w (hg : Vote.Ok M g) hl => hS M g va M l w bm (ok_bd hg) (by omega) hl)
  have hmk := make_pairs M (by omega)
  clear hS bm hok hf
  go_enter Try.func6, Try.ntmps6
  go_wp2_with fail
  have HX0 := Lib.hid (Ints.box w f 24)
  refine (RR.out _).mono ?_; rintro e w1 ⟨rfl, hb⟩; have hz := hb.size; (try simp only [World.size_alloc, World.heap_drewN, World.size_drew, World.size_setCell] at hz)
  have HB1 := Lib.hid (show Below w.heap.size w w1 from bel)
  have HX1 := Lib.hid (HX0.out.below hb)
  clear hb HX0
  have hs4 : IntKind.i64.wrap (4 * (M : Int)) = 4 * M := IntWalk.i64_in _ (by omega)
  go_upto_region 5 with fail
  have HX2 := Lib.hid (HX1.out.alloc (.cells (madeCells #[.int .i64 0, .int .i64 0] (2 * M)) 33))
  have HN2 := Lib.hid (Ints.made w1 (2 * M) 33)
  have HB2 := Lib.hid (show Below w.heap.size w (w1.alloc (.cells (madeCells #[.int .i64 0, .int .i64 0] (2 * M)) 33)) from by have := HB1.out; exact bel)
  have z1 := HX1.out.1
  clear HX1 HB1
  go_wp2_with fail
  go_loopw [9] (fun k wr => ∃ K : Nat, K ≤ 4 * M + 1 ∧ k = .int .i64 K ∧ ∃ g, Hub.Silent M K g ∧ Ints wr w.heap.size 12 g ∧ Ints wr w1.heap.size (2 * M) (fun _ => 0) ∧ Below w.heap.size w wr) (fun k _ => 4 * M + 1 - (intOf k).toNat)
  case atStart => exact ⟨0, by omega, rfl, f, HS0.out, HX2.out, HN2.out, HB2.out⟩
  case round =>
    clear HX2 HN2 HB2
    obtain ⟨K, hK, rfl, g, hL, hX, hN, hb⟩ := hrel
    have HB := Lib.hid hb
    have HX := Lib.hid hX
    have HN := Lib.hid hN
    have HL := Lib.hid hL
    clear hb hX hN hL
    have HX_c0 := (HX.out.2 0 (by decide)).1; have HX_c1 := (HX.out.2 1 (by decide)).1; have HX_c2 := (HX.out.2 2 (by decide)).1; have HX_c3 := (HX.out.2 3 (by decide)).1; have HX_c4 := (HX.out.2 4 (by decide)).1; have HX_c5 := (HX.out.2 5 (by decide)).1; have HX_c6 := (HX.out.2 6 (by decide)).1; have HX_c7 := (HX.out.2 7 (by decide)).1; have HX_c8 := (HX.out.2 8 (by decide)).1; have HX_c9 := (HX.out.2 9 (by decide)).1; have HX_c10 := (HX.out.2 10 (by decide)).1; have HX_c11 := (HX.out.2 11 (by decide)).1; have HX_z := HX.out.1
    by_cases hlt : K < 4 * M + 1
    · have h1 : (K : Int) ≤ 4 * M := by omega
      have h0 : (0 : Int) ≤ K := by omega
      obtain ⟨hnx, hout⟩ := Hub.Silent.next (l := fun _ => 0) (m := M) HL.out rfl (fun p hp => rfl)
      have hw0 := Gate.wrong_zero HL.out.ok (fits_zero h38)
      have T2 := Lib.hid (fun va w hl => ST.out g va (fun _ => 0) w HL.out.ok hl)
      rw [stepH_yes hw0, stepF_yes hw0, hw0, hout 0, hout 1] at T2
      have HNX := Lib.hid hnx
      generalize Hub.step M g (fun _ => 0) M = d at *
      clear hnx hout hw0
      go_wp2_with fail
      refine (T2.out _ _ (HN.out.prs)).mono ?_
      rintro e w2 ⟨rfl, hb⟩
      have hz := hb.size
      have HB2 := Lib.hid (show Below w.heap.size w w2 from by have := HB.out; exact bel)
      have HX2 := Lib.hid (HX.out.below hb)
      have HN2 := Lib.hid (HN.out.below hb)
      clear hb HB HX HN HL
      clear HX_c0 HX_c1 HX_c2 HX_c3 HX_c4 HX_c5 HX_c6 HX_c7 HX_c8 HX_c9 HX_c10 HX_c11 HX_z
      have HX2_r := HX2.out.row12; have HX2_c0 := (HX2.out.2 0 (by decide)).1; have HX2_f0 := (HX2.out.2 0 (by decide)).2; have HX2_c1 := (HX2.out.2 1 (by decide)).1; have HX2_f1 := (HX2.out.2 1 (by decide)).2; have HX2_c2 := (HX2.out.2 2 (by decide)).1; have HX2_f2 := (HX2.out.2 2 (by decide)).2; have HX2_c3 := (HX2.out.2 3 (by decide)).1; have HX2_f3 := (HX2.out.2 3 (by decide)).2; have HX2_c4 := (HX2.out.2 4 (by decide)).1; have HX2_f4 := (HX2.out.2 4 (by decide)).2; have HX2_c5 := (HX2.out.2 5 (by decide)).1; have HX2_f5 := (HX2.out.2 5 (by decide)).2; have HX2_c6 := (HX2.out.2 6 (by decide)).1; have HX2_f6 := (HX2.out.2 6 (by decide)).2; have HX2_c7 := (HX2.out.2 7 (by decide)).1; have HX2_f7 := (HX2.out.2 7 (by decide)).2; have HX2_c8 := (HX2.out.2 8 (by decide)).1; have HX2_f8 := (HX2.out.2 8 (by decide)).2; have HX2_c9 := (HX2.out.2 9 (by decide)).1; have HX2_f9 := (HX2.out.2 9 (by decide)).2; have HX2_c10 := (HX2.out.2 10 (by decide)).1; have HX2_f10 := (HX2.out.2 10 (by decide)).2; have HX2_c11 := (HX2.out.2 11 (by decide)).1; have HX2_f11 := (HX2.out.2 11 (by decide)).2; have HX2_z := HX2.out.1
      go_upto_region 7 with fail
      generalize hw3 : World.alloc _ _ = w3
      have HX3 := Lib.hid (show Ints w3 w.heap.size 12 d from by rw [← hw3]; exact ((HX2.out.set12 d).alloc _).alloc _)
      have HN3 := Lib.hid (show Ints w3 w1.heap.size (2 * M) (fun _ => 0) from by rw [← hw3]; exact ((HN2.out.other12 _ d (by omega)).alloc _).alloc _)
      have HB3 := Lib.hid (show Below w.heap.size w w3 from by have := HB2.out; rw [← hw3]; exact bel)
      clear hw3 HX2 HN2 HB2 HX2_r HX2_f0 HX2_f1 HX2_f2 HX2_f3 HX2_f4 HX2_f5 HX2_f6 HX2_f7 HX2_f8 HX2_f9 HX2_f10 HX2_f11
      clear HX2_c0 HX2_c1 HX2_c2 HX2_c3 HX2_c4 HX2_c5 HX2_c6 HX2_c7 HX2_c8 HX2_c9 HX2_c10 HX2_c11 HX2_z
      go_wp2
      go_roundw
      case rel => exact ⟨K + 1, by omega, by go_num, d, HNX.out, HX3.out, HN3.out, HB3.out⟩
      case measure => simp [intOf]; omega
    · obtain rfl : K = 4 * M + 1 := by omega
      have h1 : ¬ (((4 * M + 1 : Nat) : Int) ≤ 4 * M) := by omega
      have q0 := Int.emod_nonneg (who : Int) (show (M : Int) ≠ 0 by omega)
      have q1 := Int.emod_lt_of_pos (who : Int) (show (0 : Int) < M by omega)
      have t1 : Int.tmod (who : Int) M = (who : Int) % M := Int.tmod_eq_emod_of_nonneg (by omega)
      have t2 : ((M : Int) == 0) = false := by simp; omega
      generalize (who : Int) % (M : Int) = Pi at *
      obtain ⟨P, rfl⟩ := Int.eq_ofNat_of_zero_le q0
      have hPM : P < M := by omega
      obtain ⟨g0, ho, s8, s9⟩ := Hub.Silent.cs (l := oneCs P) HL.out rfl hPM (oneCs_0 P) (oneCs_1 P) (fun q hq e => oneCs_no P q e)
      have hw0 := Gate.wrong_zero HL.out.ok (oneCs_fits h38 hPM)
      have T2 := Lib.hid (fun va w hl => ST.out g va (oneCs P) w HL.out.ok hl)
      rw [stepH_yes hw0, stepF_yes hw0, hw0, ho 0, ho 1, Nat.add_zero, oneCs_0, oneCs_1] at T2
      have HG0 := Lib.hid g0
      have HS8 := Lib.hid s8
      have HS9 := Lib.hid s9
      generalize Hub.step M g (oneCs P) M = d at *
      clear g0 ho s8 s9 hw0
      go_upto_region 13 with fail
      have HX2 := Lib.hid (HX.out.alloc (.cells (madeCells #[.int .i64 0, .int .i64 0] (2 * M)) 33))
      have HL2 := Lib.hid (Ints.made wr (2 * M) 33)
      have HB2 := Lib.hid (show Below w.heap.size w (wr.alloc (.cells (madeCells #[.int .i64 0, .int .i64 0] (2 * M)) 33)) from by have := HB.out; exact bel)
      obtain ⟨a0, b0⟩ := HL2.out.2 (P * 2) (by omega)
      obtain ⟨a1, b1⟩ := HL2.out.2 (P * 2 + 1) (by omega)
      have zr := HX.out.1
      have zl := HL2.out.1
      clear HX HN HB HL
      clear HX_c0 HX_c1 HX_c2 HX_c3 HX_c4 HX_c5 HX_c6 HX_c7 HX_c8 HX_c9 HX_c10 HX_c11 HX_z
      generalize hwl : World.alloc _ _ = wl at *
      generalize hbl : wr.heap.size = bl at *
      go_upto_region 15 with fail
      generalize hw3 : World.setCell _ _ _ = w3
      have HX3 := Lib.hid (show Ints w3 w.heap.size 12 g from by rw [← hw3]; exact (HX2.out.other _ _ _ (by omega)).other _ _ _ (by omega))
      have HL3 := Lib.hid (show Ints w3 bl (2 * M) (oneCs P) from by
        rw [← hw3]
        exact (HL2.out.set (P * 2) 1 (by omega) _ (fun j => rfl)).set (P * 2 + 1) P (by omega) _ (fun j => rfl))
      have HB3 := Lib.hid (show Below w.heap.size w w3 from by have := HB2.out; rw [← hw3]; exact bel)
      clear hw3 HX2 HL2 HB2 a0 b0 a1 b1
      have HX3_c0 := (HX3.out.2 0 (by decide)).1; have HX3_c1 := (HX3.out.2 1 (by decide)).1; have HX3_c2 := (HX3.out.2 2 (by decide)).1; have HX3_c3 := (HX3.out.2 3 (by decide)).1; have HX3_c4 := (HX3.out.2 4 (by decide)).1; have HX3_c5 := (HX3.out.2 5 (by decide)).1; have HX3_c6 := (HX3.out.2 6 (by decide)).1; have HX3_c7 := (HX3.out.2 7 (by decide)).1; have HX3_c8 := (HX3.out.2 8 (by decide)).1; have HX3_c9 := (HX3.out.2 9 (by decide)).1; have HX3_c10 := (HX3.out.2 10 (by decide)).1; have HX3_c11 := (HX3.out.2 11 (by decide)).1; have HX3_z := HX3.out.1
      go_wp2_with fail
      refine (T2.out _ _ (HL3.out.prs)).mono ?_
      rintro e w4 ⟨rfl, hb⟩
      have hz := hb.size
      have HB4 := Lib.hid (show Below w.heap.size w w4 from by have := HB3.out; exact bel)
      have HX4 := Lib.hid (HX3.out.below hb)
      have HL4 := Lib.hid (HL3.out.below hb)
      clear hb HX3 HL3 HB3
      clear HX3_c0 HX3_c1 HX3_c2 HX3_c3 HX3_c4 HX3_c5 HX3_c6 HX3_c7 HX3_c8 HX3_c9 HX3_c10 HX3_c11 HX3_z
      go_upto_region 16 with fail
      have HA5 := Lib.hid ((Ints.box w4 d 24).alloc (.cells #[.int .i64 1, .int .i64 P] 33))
      have HF5 := Lib.hid (Ints.two (w4.alloc (.cells #[.int .i64 (d 0), .int .i64 (d 1), .int .i64 (d 2), .int .i64 (d 3), .int .i64 (d 4), .int .i64 (d 5), .int .i64 (d 6), .int .i64 (d 7), .int .i64 (d 8), .int .i64 (d 9), .int .i64 (d 10), .int .i64 (d 11)] 24)) 1 P 33 (fun j => if j = 0 then 1 else (P : Int)) rfl rfl)
      rw [World.size_alloc] at HF5
      refine region_below (by kernel_rfl) (by kernel_rfl) ?_; intro wR HW
      have HBR := Lib.hid (show Below w.heap.size w wR from by have := HB4.out; rw [← HW.out]; exact bel)
      have x10 : wR.cell? ⟨w.heap.size, 10, none⟩ = some (.int .i64 0) := by
        have := (((HX4.out.alloc (.cells #[.int .i64 (d 0), .int .i64 (d 1), .int .i64 (d 2), .int .i64 (d 3), .int .i64 (d 4), .int .i64 (d 5), .int .i64 (d 6), .int .i64 (d 7), .int .i64 (d 8), .int .i64 (d 9), .int .i64 (d 10), .int .i64 (d 11)] 24)).alloc (.cells #[.int .i64 1, .int .i64 P] 33)).2 10 (by decide)).1
        rw [HG0.out] at this
        rw [← HW.out]; exact this
      have l0 : wR.cell? ⟨bl, P * 2, none⟩ = some (.int .i64 1) := by
        have := (((HL4.out.alloc (.cells #[.int .i64 (d 0), .int .i64 (d 1), .int .i64 (d 2), .int .i64 (d 3), .int .i64 (d 4), .int .i64 (d 5), .int .i64 (d 6), .int .i64 (d 7), .int .i64 (d 8), .int .i64 (d 9), .int .i64 (d 10), .int .i64 (d 11)] 24)).alloc (.cells #[.int .i64 1, .int .i64 P] 33)).2 (P * 2) (by omega)).1
        rw [oneCs_0] at this
        rw [← HW.out]; exact this
      have l1 : wR.cell? ⟨bl, P * 2 + 1, none⟩ = some (.int .i64 P) := by
        have := (((HL4.out.alloc (.cells #[.int .i64 (d 0), .int .i64 (d 1), .int .i64 (d 2), .int .i64 (d 3), .int .i64 (d 4), .int .i64 (d 5), .int .i64 (d 6), .int .i64 (d 7), .int .i64 (d 8), .int .i64 (d 9), .int .i64 (d 10), .int .i64 (d 11)] 24)).alloc (.cells #[.int .i64 1, .int .i64 P] 33)).2 (P * 2 + 1) (by omega)).1
        rw [oneCs_1] at this
        rw [← HW.out]; exact this
      have a8 : wR.cell? ⟨w4.heap.size, 8, none⟩ = some (.int .i64 P) := by
        have := (HA5.out.2 8 (by decide)).1
        rw [← HW.out]; exact this.trans (congrArg (fun z => some (Value.int .i64 z)) HS8.out)
      have a9 : wR.cell? ⟨w4.heap.size, 9, none⟩ = some (.int .i64 0) := by
        have := (HA5.out.2 9 (by decide)).1
        rw [← HW.out]; exact this.trans (congrArg (fun z => some (Value.int .i64 z)) HS9.out)
      have d0 : wR.cell? ⟨w4.heap.size + 1, 0, none⟩ = some (.int .i64 1) := by
        have := (HF5.out.2 0 (by decide)).1
        rw [← HW.out]; exact this
      have d1 : wR.cell? ⟨w4.heap.size + 1, 1, none⟩ = some (.int .i64 P) := by
        have := (HF5.out.2 1 (by decide)).1
        rw [← HW.out]; exact this
      replace x10 := cell_regrown x10
      replace l0 := cell_regrown l0
      replace l1 := cell_regrown l1
      replace a8 := cell_regrown a8
      replace a9 := cell_regrown a9
      replace d0 := cell_regrown d0
      replace d1 := cell_regrown d1
      have p0 : (0 : Int) ≤ P := by omega
      have p1 : (P : Int) < M := by omega
      (repeat (first | go_big_quiet_step (first | with_reducible exact Calls.regrown_of (AW.out _)) | quiet_step (first | with_reducible exact Calls.regrown_of (AW.out _)))); refine wpQuiet_nil ?_; intro w2 hb2
      have HB6 := Lib.hid (show Below w.heap.size w w2 from by have := HBR.out; exact bthru hb2 this)
      clear hb2
      have := HB6.out
      go_wp2
      go_ret
      exact ⟨rfl, HB6.out⟩
theorem hubForgets_of (hS : CHStep) (n : Nat) (hn : n < 256) (who : Nat) (hwho : who < 256) (f : Nat → Int) (hf : Bd12 f) (w : World) :
    Calls Try.prog 6 #[.int .u8 n, .agg #[.int .i64 (f 0), .int .i64 (f 1), .int .i64 (f 2), .int .i64 (f 3), .int .i64 (f 4), .int .i64 (f 5), .int .i64 (f 6), .int .i64 (f 7), .int .i64 (f 8), .int .i64 (f 9), .int .i64 (f 10), .int .i64 (f 11)], .int .u8 who] w fun e w' => e = .returned (.bool true) ∧ Below w.heap.size w w' := by
  obtain ⟨M, hM⟩ := Int.eq_ofNat_of_zero_le (show 0 ≤ 3 + (n : Int) % 6 by omega)
  by_cases hok : Vote.Ok M f
  · exact hubForgets_in hS n hn who hwho M hM f hf w hok
  · have AW := Lib.hid (awake13_of hS)
    have RR := Lib.hid (fun w => refVRight_any M f w)
    rw [Vote.ok_no hok] at RR
    clear hS hok hf
    go_enter Try.func6, Try.ntmps6
    go_wp2_with fail
    refine (RR.out _).mono ?_; rintro e w1 ⟨rfl, hb⟩; have hz := hb.size; (try simp only [World.size_alloc, World.heap_drewN, World.size_drew, World.size_setCell] at hz)
    have HB1 := Lib.hid (show Below w.heap.size w w1 from bel)
    clear hb
    go_wp2_with fail
    refine (AW.out _).mono ?_; rintro e w2 ⟨rfl, hb⟩; have hz := hb.size; (try simp only [World.size_alloc, World.heap_drewN, World.size_drew, World.size_setCell] at hz)
    have := HB1.out
    go_wp2
    go_ret
    exact ⟨rfl, bel⟩
end Go.Proofs.Ytkdmmomfolhfbaa
