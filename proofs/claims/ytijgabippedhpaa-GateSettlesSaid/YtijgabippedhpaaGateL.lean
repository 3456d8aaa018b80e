
import Derived.Test.YtijgabippedhpaaRows
import Derived.Test.YtijgabippedhpaaGateK
namespace Go.Proofs.Ytijgabippedhpaa
set_option linter.unusedVariables false
set_option linter.unusedSimpArgs false
open Go.ChangeShapes Go.WideShapes Go.RowKit

theorem Ints.set8 {w : World} {b : Nat} {f : Nat → Int} (h : Ints w b 12 f) (g : Nat → Int) : Ints (((((((((w).setCell ⟨b, 0, none⟩ (.int .i64 (g 0))).setCell ⟨b, 1, none⟩ (.int .i64 (g 1))).setCell ⟨b, 2, none⟩ (.int .i64 (g 2))).setCell ⟨b, 3, none⟩ (.int .i64 (g 3))).setCell ⟨b, 4, none⟩ (.int .i64 (g 4))).setCell ⟨b, 5, none⟩ (.int .i64 (g 5))).setCell ⟨b, 6, none⟩ (.int .i64 (g 6))).setCell ⟨b, 7, none⟩ (.int .i64 (g 7))) b 12 (fun j => if j < 8 then g j else f j) := by
  refine Ints.like (Ints.set (Ints.set (Ints.set (Ints.set (Ints.set (Ints.set (Ints.set (Ints.set h 0 (g 0) (by decide) (fun j => if j = 0 then g 0 else f j) (fun j => rfl)) 1 (g 1) (by decide) (fun j => if j = 1 then g 1 else if j = 0 then g 0 else f j) (fun j => rfl)) 2 (g 2) (by decide) (fun j => if j = 2 then g 2 else if j = 1 then g 1 else if j = 0 then g 0 else f j) (fun j => rfl)) 3 (g 3) (by decide) (fun j => if j = 3 then g 3 else if j = 2 then g 2 else if j = 1 then g 1 else if j = 0 then g 0 else f j) (fun j => rfl)) 4 (g 4) (by decide) (fun j => if j = 4 then g 4 else if j = 3 then g 3 else if j = 2 then g 2 else if j = 1 then g 1 else if j = 0 then g 0 else f j) (fun j => rfl)) 5 (g 5) (by decide) (fun j => if j = 5 then g 5 else if j = 4 then g 4 else if j = 3 then g 3 else if j = 2 then g 2 else if j = 1 then g 1 else if j = 0 then g 0 else f j) (fun j => rfl)) 6 (g 6) (by decide) (fun j => if j = 6 then g 6 else if j = 5 then g 5 else if j = 4 then g 4 else if j = 3 then g 3 else if j = 2 then g 2 else if j = 1 then g 1 else if j = 0 then g 0 else f j) (fun j => rfl)) 7 (g 7) (by decide) (fun j => if j = 7 then g 7 else if j = 6 then g 6 else if j = 5 then g 5 else if j = 4 then g 4 else if j = 3 then g 3 else if j = 2 then g 2 else if j = 1 then g 1 else if j = 0 then g 0 else f j) (fun j => rfl)) (fun j hj => ?_)
  rcases twelve hj with rfl | rfl | rfl | rfl | rfl | rfl | rfl | rfl | rfl | rfl | rfl | rfl <;> rfl
theorem Ints.other8 {w : World} {b' n : Nat} {f : Nat → Int} (h : Ints w b' n f) (b : Nat) (g : Nat → Int) (hb : b ≠ b') : Ints (((((((((w).setCell ⟨b, 0, none⟩ (.int .i64 (g 0))).setCell ⟨b, 1, none⟩ (.int .i64 (g 1))).setCell ⟨b, 2, none⟩ (.int .i64 (g 2))).setCell ⟨b, 3, none⟩ (.int .i64 (g 3))).setCell ⟨b, 4, none⟩ (.int .i64 (g 4))).setCell ⟨b, 5, none⟩ (.int .i64 (g 5))).setCell ⟨b, 6, none⟩ (.int .i64 (g 6))).setCell ⟨b, 7, none⟩ (.int .i64 (g 7))) b' n f :=
  ((((((((h).other b 0 (.int .i64 (g 0)) hb).other b 1 (.int .i64 (g 1)) hb).other b 2 (.int .i64 (g 2)) hb).other b 3 (.int .i64 (g 3)) hb).other b 4 (.int .i64 (g 4)) hb).other b 5 (.int .i64 (g 5)) hb).other b 6 (.int .i64 (g 6)) hb).other b 7 (.int .i64 (g 7)) hb
set_option maxHeartbeats 4000000 in
theorem gateNotes_in (hF : CGFits) (hN : CGNote) (hS : CGSettle) (hR : CGRelay) (n : Nat) (hn : n < 256) (m : Nat) (hM : 3 + (n : Int) % 6 = m) (f : Nat → Int) (hf : Bd12 f) (va : Value) (l : Nat → Int) (w : World) (hl : Prs w va m l) (hok : Vote.Ok m f) (hfit : Gate.Fits m m l) :
    Calls Try.prog 6 #[.int .u8 n, .agg #[.int .i64 (f 0), .int .i64 (f 1), .int .i64 (f 2), .int .i64 (f 3), .int .i64 (f 4), .int .i64 (f 5), .int .i64 (f 6), .int .i64 (f 7), .int .i64 (f 8), .int .i64 (f 9), .int .i64 (f 10), .int .i64 (f 11)], va] w fun e w' => e = .returned (.bool true) ∧ Below w.heap.size w w' := by
  obtain ⟨p1, c1, rfl⟩ := hl.form
  have h38 := hok.1
  have AW := Lib.hid (awake12_of hF hS hR)
  have bm : Bd (m : Int) := by unfold Bd; omega
  have h0w := Gate.wrong_zero hok hfit
  have N1 := Lib.hid (fun w hl => hN m f (.slice p1 m c1) m l w bm hf (by omega) hl)
  rw [h0w, show noted m f m l = Gate.note m f l from funext fun j => noted_yes h0w j] at N1
  have RR := Lib.hid (fun w => refVRight_any m f w)
  rw [Vote.ok_iff.2 hok] at RR
  have FF := Lib.hid (fun w hl => refGFits_any m (.slice p1 m c1) m l w (by unfold maxLen; omega) hl)
  rw [Gate.fits_iff.2 hfit] at FF
  have VO := Lib.hid (fun (p : Nat) w => refVVotes_any m (Gate.note m f l) (p : Nat) w)
  have HV := Lib.hid (fun (p : Nat) hp hk => Gate.note_votes (Gate.ok_note (l := l) hok) (p := p) hp hk)
  have HI := Lib.hid (fun (p : Nat) (hp : (p : Int) < m) (hk : l (p * 2) = 2) => show Gate.note m f l p = 0 from if_pos ⟨hp, hk⟩)
  have HE := Lib.hid (fun (p : Nat) (hk : ¬ l (p * 2) = 2) => show Gate.note m f l p = f p from if_neg (fun q => hk q.2))
  have HG := Lib.hid (fun (j : Nat) (hj : ¬ j < 8) => show Gate.note m f l j = f j from if_neg (fun q => by omega))
  have HL := Lib.hid hl
  generalize Gate.note m f l = x at *
  clear hF hN hS hR bm h0w hok hfit hl hf
  go_enter Try.func6, Try.ntmps6
  go_wp2_with fail
  have hlen : ¬ (20 : Int) < m := by omega
  have HX0 := Lib.hid (Ints.box w f 24)
  refine (RR.out _).mono ?_; rintro e w1 ⟨rfl, hb⟩; have hz := hb.size; (try simp only [World.size_alloc, World.heap_drewN, World.size_drew, World.size_setCell] at hz)
  have HB1 := Lib.hid (show Below w.heap.size w w1 from bel)
  have HX1 := Lib.hid (HX0.out.below hb)
  clear hb HX0
  go_wp2_with fail
  refine (FF.out _ (HL.out.below HB1.out)).mono ?_; rintro e w2 ⟨rfl, hb⟩; have hz := hb.size; (try simp only [World.size_alloc, World.heap_drewN, World.size_drew, World.size_setCell] at hz)
  have HB2 := Lib.hid (show Below w.heap.size w w2 from by have := HB1.out; exact bel)
  have HX2 := Lib.hid (HX1.out.below hb)
  clear hb HX1 HB1
  have HX2_c0 := (HX2.out.2 0 (by decide)).1; have HX2_c1 := (HX2.out.2 1 (by decide)).1; have HX2_c2 := (HX2.out.2 2 (by decide)).1; have HX2_c3 := (HX2.out.2 3 (by decide)).1; have HX2_c4 := (HX2.out.2 4 (by decide)).1; have HX2_c5 := (HX2.out.2 5 (by decide)).1; have HX2_c6 := (HX2.out.2 6 (by decide)).1; have HX2_c7 := (HX2.out.2 7 (by decide)).1; have HX2_c8 := (HX2.out.2 8 (by decide)).1; have HX2_c9 := (HX2.out.2 9 (by decide)).1; have HX2_c10 := (HX2.out.2 10 (by decide)).1; have HX2_c11 := (HX2.out.2 11 (by decide)).1; have HX2_z := HX2.out.1
  go_wp2_with fail
  refine (N1.out _ (HL.out.below HB2.out)).mono ?_; rintro e w3 ⟨rfl, hb⟩; have hz := hb.size; (try simp only [World.size_alloc, World.heap_drewN, World.size_drew, World.size_setCell] at hz)
  have HB3 := Lib.hid (show Below w.heap.size w w3 from by have := HB2.out; exact bel)
  have HX3 := Lib.hid (HX2.out.below hb)
  clear hb HX2 HB2
  clear HX2_c0 HX2_c1 HX2_c2 HX2_c3 HX2_c4 HX2_c5 HX2_c6 HX2_c7 HX2_c8 HX2_c9 HX2_c10 HX2_c11 HX2_z
  go_wp2_with fail
  have HA3 := Lib.hid (Ints.box w3 x 24)
  have HX4 := Lib.hid (HX3.out.alloc (.cells #[.int .i64 (x 0), .int .i64 (x 1), .int .i64 (x 2), .int .i64 (x 3), .int .i64 (x 4), .int .i64 (x 5), .int .i64 (x 6), .int .i64 (x 7), .int .i64 (x 8), .int .i64 (x 9), .int .i64 (x 10), .int .i64 (x 11)] 24))
  have HB4 := Lib.hid (show Below w.heap.size w (w3.alloc (.cells #[.int .i64 (x 0), .int .i64 (x 1), .int .i64 (x 2), .int .i64 (x 3), .int .i64 (x 4), .int .i64 (x 5), .int .i64 (x 6), .int .i64 (x 7), .int .i64 (x 8), .int .i64 (x 9), .int .i64 (x 10), .int .i64 (x 11)] 24)) from by have := HB3.out; exact bel)
  have z3 := HX3.out.1
  clear HX3 HB3
  go_loopw [10] (fun k wr => ∃ K : Nat, K ≤ m ∧ k = .int .i64 K ∧ Ints wr w.heap.size 12 f ∧ Ints wr w3.heap.size 12 x ∧ Below w.heap.size w wr) (fun k _ => m - (intOf k).toNat)
  case atStart => exact ⟨0, by omega, rfl, HX4.out, HA3.out, HB4.out⟩
  case round =>
    clear HX4 HA3 HB4
    obtain ⟨K, hK, rfl, hX, hA, hb⟩ := hrel
    have HB := Lib.hid hb
    have HX := Lib.hid hX
    have HA := Lib.hid hA
    clear hX hA
    by_cases hlt : K < m
    · have h1 : (K : Int) < m := by omega
      have h8 : (K : Int) < 8 := by omega
      have h0 : (0 : Int) ≤ K := by omega
      obtain ⟨b1, o1, rfl, hl1, hc1⟩ := HL.out.some (by omega)
      obtain ⟨k0, k1⟩ := two_cells hc1 hb hlt
      have cx := (HX.out.2 K (by omega)).1
      have ca := (HA.out.2 K (by omega)).1
      clear hc1 hb k1
      by_cases hk : l (K * 2) = 2
      · have VK := Lib.hid (fun w => VO.out K w)
        have hv := HV.out K h1 hk
        generalize Vote.votes m x (K : Nat) = y at *
        have hy : ¬ (y : Int) < 1 := by omega
        rw [hk] at k0
        rw [HI.out K h1 hk] at ca
        clear hk hv
        go_upto_region 10 with fail
        refine region_below (by kernel_rfl) (by kernel_rfl) ?_; intro wR HW
        have HBR := Lib.hid (show Below w.heap.size w wR from by have := HB.out; rw [← HW.out]; exact this)
        have HXR := Lib.hid (show Ints wR w.heap.size 12 f from by rw [← HW.out]; exact HX.out)
        have HAR := Lib.hid (show Ints wR w3.heap.size 12 x from by rw [← HW.out]; exact HA.out)
        rw [HW.out] at k0 cx ca
        replace k0 := cell_regrown k0
        replace cx := cell_regrown cx
        replace ca := cell_regrown ca
        have HAR_c0 := (HAR.out.2 0 (by decide)).1; have HAR_c1 := (HAR.out.2 1 (by decide)).1; have HAR_c2 := (HAR.out.2 2 (by decide)).1; have HAR_c3 := (HAR.out.2 3 (by decide)).1; have HAR_c4 := (HAR.out.2 4 (by decide)).1; have HAR_c5 := (HAR.out.2 5 (by decide)).1; have HAR_c6 := (HAR.out.2 6 (by decide)).1; have HAR_c7 := (HAR.out.2 7 (by decide)).1; have HAR_c8 := (HAR.out.2 8 (by decide)).1; have HAR_c9 := (HAR.out.2 9 (by decide)).1; have HAR_c10 := (HAR.out.2 10 (by decide)).1; have HAR_c11 := (HAR.out.2 11 (by decide)).1; have HAR_z := HAR.out.1
        replace HAR_c0 := cell_regrown HAR_c0; replace HAR_c1 := cell_regrown HAR_c1; replace HAR_c2 := cell_regrown HAR_c2; replace HAR_c3 := cell_regrown HAR_c3; replace HAR_c4 := cell_regrown HAR_c4; replace HAR_c5 := cell_regrown HAR_c5; replace HAR_c6 := cell_regrown HAR_c6; replace HAR_c7 := cell_regrown HAR_c7; replace HAR_c8 := cell_regrown HAR_c8; replace HAR_c9 := cell_regrown HAR_c9; replace HAR_c10 := cell_regrown HAR_c10; replace HAR_c11 := cell_regrown HAR_c11
        (repeat (first | go_big_quiet_step (first | with_reducible exact Calls.regrown_of (VK.out _)) | quiet_step (first | with_reducible exact Calls.regrown_of (VK.out _)))); refine wpQuiet_nil ?_; intro w2 hb2
        have HB2 := Lib.hid (show Below w.heap.size w w2 from by have := HBR.out; exact bthru hb2 this)
        have HX2 := Lib.hid (HXR.out.below hb2)
        have HA2 := Lib.hid (HAR.out.below hb2)
        clear hb2 HBR HXR HAR k0 cx ca
        clear HAR_c0 HAR_c1 HAR_c2 HAR_c3 HAR_c4 HAR_c5 HAR_c6 HAR_c7 HAR_c8 HAR_c9 HAR_c10 HAR_c11 HAR_z
        go_wp2
        go_roundw
        case rel => exact ⟨K + 1, by omega, by go_num, HX2.out, HA2.out, HB2.out⟩
        case measure => simp [intOf]; omega
      · have hk2 : (l (K * 2) == 2) = false := by simp [hk]
        rw [HE.out K hk] at ca
        clear hk
        have hk3 : ¬ l (K * 2) = 2 := by simpa using hk2
        have hk4 : (l (K * 2) != 2) = true := by simpa using hk2
        generalize l (K * 2) = kk at k0 hk2 hk3 hk4
        generalize f K = fk at cx ca
        go_upto_region 10 with fail
        refine region_below (by kernel_rfl) (by kernel_rfl) ?_; intro wR HW
        have HBR := Lib.hid (show Below w.heap.size w wR from by have := HB.out; rw [← HW.out]; exact this)
        have HXR := Lib.hid (show Ints wR w.heap.size 12 f from by rw [← HW.out]; exact HX.out)
        have HAR := Lib.hid (show Ints wR w3.heap.size 12 x from by rw [← HW.out]; exact HA.out)
        rw [HW.out] at k0 cx ca
        replace k0 := cell_regrown k0
        replace cx := cell_regrown cx
        replace ca := cell_regrown ca
        (repeat (first | go_big_quiet_step (first | with_reducible exact Calls.regrown_of (VO.out _ _)) | quiet_step (first | with_reducible exact Calls.regrown_of (VO.out _ _)))); refine wpQuiet_nil ?_; intro w2 hb2
        have HB2 := Lib.hid (show Below w.heap.size w w2 from by have := HBR.out; exact bthru hb2 this)
        have HX2 := Lib.hid (HXR.out.below hb2)
        have HA2 := Lib.hid (HAR.out.below hb2)
        clear hb2 HBR HXR HAR k0 cx ca
        go_wp2
        go_roundw
        case rel => exact ⟨K + 1, by omega, by go_num, HX2.out, HA2.out, HB2.out⟩
        case measure => simp [intOf]; omega
    · obtain rfl : K = m := by omega
      clear hb
      have HX_c0 := (HX.out.2 0 (by decide)).1; have HX_c1 := (HX.out.2 1 (by decide)).1; have HX_c2 := (HX.out.2 2 (by decide)).1; have HX_c3 := (HX.out.2 3 (by decide)).1; have HX_c4 := (HX.out.2 4 (by decide)).1; have HX_c5 := (HX.out.2 5 (by decide)).1; have HX_c6 := (HX.out.2 6 (by decide)).1; have HX_c7 := (HX.out.2 7 (by decide)).1; have HX_c8 := (HX.out.2 8 (by decide)).1; have HX_c9 := (HX.out.2 9 (by decide)).1; have HX_c10 := (HX.out.2 10 (by decide)).1; have HX_c11 := (HX.out.2 11 (by decide)).1; have HX_z := HX.out.1
      have HA_r := HA.out.row12; have HA_c0 := (HA.out.2 0 (by decide)).1; have HA_f0 := (HA.out.2 0 (by decide)).2; have HA_c1 := (HA.out.2 1 (by decide)).1; have HA_f1 := (HA.out.2 1 (by decide)).2; have HA_c2 := (HA.out.2 2 (by decide)).1; have HA_f2 := (HA.out.2 2 (by decide)).2; have HA_c3 := (HA.out.2 3 (by decide)).1; have HA_f3 := (HA.out.2 3 (by decide)).2; have HA_c4 := (HA.out.2 4 (by decide)).1; have HA_f4 := (HA.out.2 4 (by decide)).2; have HA_c5 := (HA.out.2 5 (by decide)).1; have HA_f5 := (HA.out.2 5 (by decide)).2; have HA_c6 := (HA.out.2 6 (by decide)).1; have HA_f6 := (HA.out.2 6 (by decide)).2; have HA_c7 := (HA.out.2 7 (by decide)).1; have HA_f7 := (HA.out.2 7 (by decide)).2; have HA_c8 := (HA.out.2 8 (by decide)).1; have HA_f8 := (HA.out.2 8 (by decide)).2; have HA_c9 := (HA.out.2 9 (by decide)).1; have HA_f9 := (HA.out.2 9 (by decide)).2; have HA_c10 := (HA.out.2 10 (by decide)).1; have HA_f10 := (HA.out.2 10 (by decide)).2; have HA_c11 := (HA.out.2 11 (by decide)).1; have HA_f11 := (HA.out.2 11 (by decide)).2; have HA_z := HA.out.1
      go_upto_region 13 with fail
      generalize hw5 : World.setCell _ _ _ = w5
      have HX5 := Lib.hid (show Ints w5 w.heap.size 12 f from by rw [← hw5]; exact HX.out.other8 _ f (by omega))
      have HA5 := Lib.hid (show Ints w5 w3.heap.size 12 f from by
        rw [← hw5]
        refine (HA.out.set8 f).like (fun j hj => ?_)
        by_cases h8 : j < 8
        · exact if_pos h8
        · exact (if_neg h8).trans (HG.out j h8))
      have HB5 := Lib.hid (show Below w.heap.size w w5 from by have := HB.out; rw [← hw5]; exact bel)
      clear hw5 HX HA HB HA_r HA_f0 HA_f1 HA_f2 HA_f3 HA_f4 HA_f5 HA_f6 HA_f7 HA_f8 HA_f9 HA_f10 HA_f11
      clear HX_c0 HX_c1 HX_c2 HX_c3 HX_c4 HX_c5 HX_c6 HX_c7 HX_c8 HX_c9 HX_c10 HX_c11 HX_z
      clear HA_c0 HA_c1 HA_c2 HA_c3 HA_c4 HA_c5 HA_c6 HA_c7 HA_c8 HA_c9 HA_c10 HA_c11 HA_z
      go_wp2_with fail
      refine (AW.out _).mono ?_; rintro e w6 ⟨rfl, hb⟩; have hz := hb.size; (try simp only [World.size_alloc, World.heap_drewN, World.size_drew, World.size_setCell] at hz)
      have HB6 := Lib.hid (show Below w.heap.size w w6 from by have := HB5.out; exact bel)
      have HX6 := Lib.hid (HX5.out.below hb)
      have HA6 := Lib.hid (HA5.out.below hb)
      clear hb HX5 HA5 HB5
      have EQ := hub_same f
      have HX6_c0 := (HX6.out.2 0 (by decide)).1; have HX6_c1 := (HX6.out.2 1 (by decide)).1; have HX6_c2 := (HX6.out.2 2 (by decide)).1; have HX6_c3 := (HX6.out.2 3 (by decide)).1; have HX6_c4 := (HX6.out.2 4 (by decide)).1; have HX6_c5 := (HX6.out.2 5 (by decide)).1; have HX6_c6 := (HX6.out.2 6 (by decide)).1; have HX6_c7 := (HX6.out.2 7 (by decide)).1; have HX6_c8 := (HX6.out.2 8 (by decide)).1; have HX6_c9 := (HX6.out.2 9 (by decide)).1; have HX6_c10 := (HX6.out.2 10 (by decide)).1; have HX6_c11 := (HX6.out.2 11 (by decide)).1; have HX6_z := HX6.out.1
      have HA6_c0 := (HA6.out.2 0 (by decide)).1; have HA6_c1 := (HA6.out.2 1 (by decide)).1; have HA6_c2 := (HA6.out.2 2 (by decide)).1; have HA6_c3 := (HA6.out.2 3 (by decide)).1; have HA6_c4 := (HA6.out.2 4 (by decide)).1; have HA6_c5 := (HA6.out.2 5 (by decide)).1; have HA6_c6 := (HA6.out.2 6 (by decide)).1; have HA6_c7 := (HA6.out.2 7 (by decide)).1; have HA6_c8 := (HA6.out.2 8 (by decide)).1; have HA6_c9 := (HA6.out.2 9 (by decide)).1; have HA6_c10 := (HA6.out.2 10 (by decide)).1; have HA6_c11 := (HA6.out.2 11 (by decide)).1; have HA6_z := HA6.out.1
      have := HB6.out
      go_wp2
      go_ret
      exact ⟨rfl, bel⟩
end Go.Proofs.Ytijgabippedhpaa
