
import Derived.Test.YtnohgfolejookaaRows
import Derived.Test.YtnohgfolejookaaVoteI
namespace Go.Proofs.Ytnohgfolejookaa
set_option linter.unusedVariables false
set_option linter.unusedSimpArgs false
open Go.ChangeShapes Go.WideShapes Go.RowKit

set_option maxHeartbeats 8000000 in
theorem voteTells_of (hF : CFresh) (hC : CClean) (hR : CRight) (hT : CTick) (hV : CVotes) (hBest : CBest) (n v : Int) (f : Nat → Int) (hn : Bd n) (hv : Bd v) (hf : Bd12 f) (w : World) :
    Calls Try.prog 3 #[.int .i64 n, .int .i64 v, .agg #[.int .i64 (f 0), .int .i64 (f 1), .int .i64 (f 2), .int .i64 (f 3), .int .i64 (f 4), .int .i64 (f 5), .int .i64 (f 6), .int .i64 (f 7), .int .i64 (f 8), .int .i64 (f 9), .int .i64 (f 10), .int .i64 (f 11)]] w fun e w' => e = .returned (.bool true) ∧ Below w.heap.size w w' := by
  have AW := Lib.hid (awake11_of hF hBest)
  have F1 := Lib.hid (fun w => hF n w hn)
  have F2 := Lib.hid (fun w => refVFresh_any n w)
  have C1 := Lib.hid (fun w => hC n f w hn hf)
  have C2 := Lib.hid (fun w => refVClean_any n f w)
  have R1 := Lib.hid (fun w => hR n f w hn hf)
  have R2 := Lib.hid (fun w => refVRight_any n f w)
  have T1 := Lib.hid (fun w => hT n f w hn hf)
  have T2 := Lib.hid (fun w => refVTick_any n f w)
  have V1 := Lib.hid (fun w => hV n f v w hn hf hv)
  have V2 := Lib.hid (fun w => refVVotes_any n f v w)
  have B1 := Lib.hid (fun w => hBest n f w hn hf)
  have B2 := Lib.hid (fun w => refVBest_any n f w)
  generalize Vote.fresh n = g at *
  generalize Vote.err n = er at *
  generalize Vote.clean n f = cl at *
  generalize Vote.ok n f = ok at *
  generalize Vote.tick n f = tk at *
  generalize Vote.tickErr n f = te at *
  generalize Vote.votes n f v = vo at *
  generalize Vote.best n f = be at *
  generalize Vote.bestVotes n f = bv at *
  clear hF hC hR hT hV hBest hn hv hf
  have EQg := hub_same g
  have EQc := hub_same cl
  go_enter Try.func3, Try.ntmps3
  go_wp2_with fail
  have HX0 := Lib.hid (Ints.box w f 24)
  refine (F1.out _).mono ?_
  rintro e w1 ⟨rfl, hb⟩
  have hz := hb.size
  (try simp only [World.size_alloc, World.heap_drewN, World.size_drew, World.size_setCell] at hz)
  have HB1 := Lib.hid (show Below w.heap.size w w1 from by exact bel)
  have HX1 := Lib.hid (HX0.out.below hb)
  clear hb HX0
  go_wp2_with fail
  refine (F2.out _).mono ?_
  rintro e w2 ⟨rfl, hb⟩
  have hz := hb.size
  (try simp only [World.size_alloc, World.heap_drewN, World.size_drew, World.size_setCell] at hz)
  have HB2 := Lib.hid (show Below w.heap.size w w2 from by have := HB1.out; exact bel)
  have HX2 := Lib.hid ((HX1.out.alloc _).below hb)
  have HA2 := Lib.hid ((Ints.box w1 g 24).below hb)
  clear hb HX1 HB1
  have HX2_c0 := (HX2.out.2 0 (by decide)).1; have HX2_c1 := (HX2.out.2 1 (by decide)).1; have HX2_c2 := (HX2.out.2 2 (by decide)).1; have HX2_c3 := (HX2.out.2 3 (by decide)).1; have HX2_c4 := (HX2.out.2 4 (by decide)).1; have HX2_c5 := (HX2.out.2 5 (by decide)).1; have HX2_c6 := (HX2.out.2 6 (by decide)).1; have HX2_c7 := (HX2.out.2 7 (by decide)).1; have HX2_c8 := (HX2.out.2 8 (by decide)).1; have HX2_c9 := (HX2.out.2 9 (by decide)).1; have HX2_c10 := (HX2.out.2 10 (by decide)).1; have HX2_c11 := (HX2.out.2 11 (by decide)).1; have HX2_z := HX2.out.1
  go_wp2_with fail
  refine (C1.out _).mono ?_
  rintro e w3 ⟨rfl, hb⟩
  have hz := hb.size
  (try simp only [World.size_alloc, World.heap_drewN, World.size_drew, World.size_setCell] at hz)
  have HB3 := Lib.hid (show Below w.heap.size w w3 from by have := HB2.out; exact bel)
  have HX3 := Lib.hid ((HX2.out.alloc _).below hb)
  have HA3 := Lib.hid ((HA2.out.alloc _).below hb)
  have Hb3 := Lib.hid ((Ints.box w2 g 24).below hb)
  clear hb HX2 HA2 HB2
  clear HX2_c0 HX2_c1 HX2_c2 HX2_c3 HX2_c4 HX2_c5 HX2_c6 HX2_c7 HX2_c8 HX2_c9 HX2_c10 HX2_c11 HX2_z
  have HX3_c0 := (HX3.out.2 0 (by decide)).1; have HX3_c1 := (HX3.out.2 1 (by decide)).1; have HX3_c2 := (HX3.out.2 2 (by decide)).1; have HX3_c3 := (HX3.out.2 3 (by decide)).1; have HX3_c4 := (HX3.out.2 4 (by decide)).1; have HX3_c5 := (HX3.out.2 5 (by decide)).1; have HX3_c6 := (HX3.out.2 6 (by decide)).1; have HX3_c7 := (HX3.out.2 7 (by decide)).1; have HX3_c8 := (HX3.out.2 8 (by decide)).1; have HX3_c9 := (HX3.out.2 9 (by decide)).1; have HX3_c10 := (HX3.out.2 10 (by decide)).1; have HX3_c11 := (HX3.out.2 11 (by decide)).1; have HX3_z := HX3.out.1
  go_wp2_with fail
  refine (C2.out _).mono ?_
  rintro e w4 ⟨rfl, hb⟩
  have hz := hb.size
  (try simp only [World.size_alloc, World.heap_drewN, World.size_drew, World.size_setCell] at hz)
  have HB4 := Lib.hid (show Below w.heap.size w w4 from by have := HB3.out; exact bel)
  have HX4 := Lib.hid ((HX3.out.alloc _).below hb)
  have HA4 := Lib.hid ((HA3.out.alloc _).below hb)
  have Hb4 := Lib.hid ((Hb3.out.alloc _).below hb)
  have HC4 := Lib.hid ((Ints.box w3 cl 24).below hb)
  clear hb HX3 HA3 Hb3 HB3
  clear HX3_c0 HX3_c1 HX3_c2 HX3_c3 HX3_c4 HX3_c5 HX3_c6 HX3_c7 HX3_c8 HX3_c9 HX3_c10 HX3_c11 HX3_z
  go_upto_region 5 with fail
  have HD4 := Lib.hid (Ints.box w4 cl 24)
  refine region_below (by kernel_rfl) (by kernel_rfl) ?_; intro wR HW
  have HBR := Lib.hid (show Below w.heap.size w wR from by have := HB4.out; rw [← HW.out]; exact bel)
  have HXR := Lib.hid (show Ints wR w.heap.size 12 f from by rw [← HW.out]; exact HX4.out.alloc _)
  have HAR := Lib.hid (show Ints wR w1.heap.size 12 g from by rw [← HW.out]; exact HA4.out.alloc _)
  have HbR := Lib.hid (show Ints wR w2.heap.size 12 g from by rw [← HW.out]; exact Hb4.out.alloc _)
  have HCR := Lib.hid (show Ints wR w3.heap.size 12 cl from by rw [← HW.out]; exact HC4.out.alloc _)
  have HDR := Lib.hid (show Ints wR w4.heap.size 12 cl from by rw [← HW.out]; exact HD4.out)
  clear HX4 HA4 Hb4 HC4 HD4 HB4
  have HXR_c0 := (HXR.out.2 0 (by decide)).1; have HXR_c1 := (HXR.out.2 1 (by decide)).1; have HXR_c2 := (HXR.out.2 2 (by decide)).1; have HXR_c3 := (HXR.out.2 3 (by decide)).1; have HXR_c4 := (HXR.out.2 4 (by decide)).1; have HXR_c5 := (HXR.out.2 5 (by decide)).1; have HXR_c6 := (HXR.out.2 6 (by decide)).1; have HXR_c7 := (HXR.out.2 7 (by decide)).1; have HXR_c8 := (HXR.out.2 8 (by decide)).1; have HXR_c9 := (HXR.out.2 9 (by decide)).1; have HXR_c10 := (HXR.out.2 10 (by decide)).1; have HXR_c11 := (HXR.out.2 11 (by decide)).1; have HXR_z := HXR.out.1
  replace HXR_c0 := cell_regrown HXR_c0; replace HXR_c1 := cell_regrown HXR_c1; replace HXR_c2 := cell_regrown HXR_c2; replace HXR_c3 := cell_regrown HXR_c3; replace HXR_c4 := cell_regrown HXR_c4; replace HXR_c5 := cell_regrown HXR_c5; replace HXR_c6 := cell_regrown HXR_c6; replace HXR_c7 := cell_regrown HXR_c7; replace HXR_c8 := cell_regrown HXR_c8; replace HXR_c9 := cell_regrown HXR_c9; replace HXR_c10 := cell_regrown HXR_c10; replace HXR_c11 := cell_regrown HXR_c11
  have HAR_c0 := (HAR.out.2 0 (by decide)).1; have HAR_c1 := (HAR.out.2 1 (by decide)).1; have HAR_c2 := (HAR.out.2 2 (by decide)).1; have HAR_c3 := (HAR.out.2 3 (by decide)).1; have HAR_c4 := (HAR.out.2 4 (by decide)).1; have HAR_c5 := (HAR.out.2 5 (by decide)).1; have HAR_c6 := (HAR.out.2 6 (by decide)).1; have HAR_c7 := (HAR.out.2 7 (by decide)).1; have HAR_c8 := (HAR.out.2 8 (by decide)).1; have HAR_c9 := (HAR.out.2 9 (by decide)).1; have HAR_c10 := (HAR.out.2 10 (by decide)).1; have HAR_c11 := (HAR.out.2 11 (by decide)).1; have HAR_z := HAR.out.1
  replace HAR_c0 := cell_regrown HAR_c0; replace HAR_c1 := cell_regrown HAR_c1; replace HAR_c2 := cell_regrown HAR_c2; replace HAR_c3 := cell_regrown HAR_c3; replace HAR_c4 := cell_regrown HAR_c4; replace HAR_c5 := cell_regrown HAR_c5; replace HAR_c6 := cell_regrown HAR_c6; replace HAR_c7 := cell_regrown HAR_c7; replace HAR_c8 := cell_regrown HAR_c8; replace HAR_c9 := cell_regrown HAR_c9; replace HAR_c10 := cell_regrown HAR_c10; replace HAR_c11 := cell_regrown HAR_c11
  have HbR_c0 := (HbR.out.2 0 (by decide)).1; have HbR_c1 := (HbR.out.2 1 (by decide)).1; have HbR_c2 := (HbR.out.2 2 (by decide)).1; have HbR_c3 := (HbR.out.2 3 (by decide)).1; have HbR_c4 := (HbR.out.2 4 (by decide)).1; have HbR_c5 := (HbR.out.2 5 (by decide)).1; have HbR_c6 := (HbR.out.2 6 (by decide)).1; have HbR_c7 := (HbR.out.2 7 (by decide)).1; have HbR_c8 := (HbR.out.2 8 (by decide)).1; have HbR_c9 := (HbR.out.2 9 (by decide)).1; have HbR_c10 := (HbR.out.2 10 (by decide)).1; have HbR_c11 := (HbR.out.2 11 (by decide)).1; have HbR_z := HbR.out.1
  replace HbR_c0 := cell_regrown HbR_c0; replace HbR_c1 := cell_regrown HbR_c1; replace HbR_c2 := cell_regrown HbR_c2; replace HbR_c3 := cell_regrown HbR_c3; replace HbR_c4 := cell_regrown HbR_c4; replace HbR_c5 := cell_regrown HbR_c5; replace HbR_c6 := cell_regrown HbR_c6; replace HbR_c7 := cell_regrown HbR_c7; replace HbR_c8 := cell_regrown HbR_c8; replace HbR_c9 := cell_regrown HbR_c9; replace HbR_c10 := cell_regrown HbR_c10; replace HbR_c11 := cell_regrown HbR_c11
  have HCR_c0 := (HCR.out.2 0 (by decide)).1; have HCR_c1 := (HCR.out.2 1 (by decide)).1; have HCR_c2 := (HCR.out.2 2 (by decide)).1; have HCR_c3 := (HCR.out.2 3 (by decide)).1; have HCR_c4 := (HCR.out.2 4 (by decide)).1; have HCR_c5 := (HCR.out.2 5 (by decide)).1; have HCR_c6 := (HCR.out.2 6 (by decide)).1; have HCR_c7 := (HCR.out.2 7 (by decide)).1; have HCR_c8 := (HCR.out.2 8 (by decide)).1; have HCR_c9 := (HCR.out.2 9 (by decide)).1; have HCR_c10 := (HCR.out.2 10 (by decide)).1; have HCR_c11 := (HCR.out.2 11 (by decide)).1; have HCR_z := HCR.out.1
  replace HCR_c0 := cell_regrown HCR_c0; replace HCR_c1 := cell_regrown HCR_c1; replace HCR_c2 := cell_regrown HCR_c2; replace HCR_c3 := cell_regrown HCR_c3; replace HCR_c4 := cell_regrown HCR_c4; replace HCR_c5 := cell_regrown HCR_c5; replace HCR_c6 := cell_regrown HCR_c6; replace HCR_c7 := cell_regrown HCR_c7; replace HCR_c8 := cell_regrown HCR_c8; replace HCR_c9 := cell_regrown HCR_c9; replace HCR_c10 := cell_regrown HCR_c10; replace HCR_c11 := cell_regrown HCR_c11
  have HDR_c0 := (HDR.out.2 0 (by decide)).1; have HDR_c1 := (HDR.out.2 1 (by decide)).1; have HDR_c2 := (HDR.out.2 2 (by decide)).1; have HDR_c3 := (HDR.out.2 3 (by decide)).1; have HDR_c4 := (HDR.out.2 4 (by decide)).1; have HDR_c5 := (HDR.out.2 5 (by decide)).1; have HDR_c6 := (HDR.out.2 6 (by decide)).1; have HDR_c7 := (HDR.out.2 7 (by decide)).1; have HDR_c8 := (HDR.out.2 8 (by decide)).1; have HDR_c9 := (HDR.out.2 9 (by decide)).1; have HDR_c10 := (HDR.out.2 10 (by decide)).1; have HDR_c11 := (HDR.out.2 11 (by decide)).1; have HDR_z := HDR.out.1
  replace HDR_c0 := cell_regrown HDR_c0; replace HDR_c1 := cell_regrown HDR_c1; replace HDR_c2 := cell_regrown HDR_c2; replace HDR_c3 := cell_regrown HDR_c3; replace HDR_c4 := cell_regrown HDR_c4; replace HDR_c5 := cell_regrown HDR_c5; replace HDR_c6 := cell_regrown HDR_c6; replace HDR_c7 := cell_regrown HDR_c7; replace HDR_c8 := cell_regrown HDR_c8; replace HDR_c9 := cell_regrown HDR_c9; replace HDR_c10 := cell_regrown HDR_c10; replace HDR_c11 := cell_regrown HDR_c11
  (repeat (first | go_big_quiet_step (first | with_reducible exact Calls.regrown_of (R1.out _) | with_reducible exact Calls.regrown_of (R2.out _)) | quiet_step (first | with_reducible exact Calls.regrown_of (R1.out _) | with_reducible exact Calls.regrown_of (R2.out _)))); refine wpQuiet_nil ?_; intro w5 hb
  have HB5 := Lib.hid (show Below w.heap.size w w5 from by have := HBR.out; exact bthru hb this)
  have HX5 := Lib.hid (HXR.out.below hb)
  have HA5 := Lib.hid (HAR.out.below hb)
  have Hb5 := Lib.hid (HbR.out.below hb)
  clear hb HBR HXR HAR HbR HCR HDR
  clear HXR_c0 HXR_c1 HXR_c2 HXR_c3 HXR_c4 HXR_c5 HXR_c6 HXR_c7 HXR_c8 HXR_c9 HXR_c10 HXR_c11 HXR_z
  clear HAR_c0 HAR_c1 HAR_c2 HAR_c3 HAR_c4 HAR_c5 HAR_c6 HAR_c7 HAR_c8 HAR_c9 HAR_c10 HAR_c11 HAR_z
  clear HbR_c0 HbR_c1 HbR_c2 HbR_c3 HbR_c4 HbR_c5 HbR_c6 HbR_c7 HbR_c8 HbR_c9 HbR_c10 HbR_c11 HbR_z
  clear HCR_c0 HCR_c1 HCR_c2 HCR_c3 HCR_c4 HCR_c5 HCR_c6 HCR_c7 HCR_c8 HCR_c9 HCR_c10 HCR_c11 HCR_z
  clear HDR_c0 HDR_c1 HDR_c2 HDR_c3 HDR_c4 HDR_c5 HDR_c6 HDR_c7 HDR_c8 HDR_c9 HDR_c10 HDR_c11 HDR_z
  have HX5_c0 := (HX5.out.2 0 (by decide)).1; have HX5_c1 := (HX5.out.2 1 (by decide)).1; have HX5_c2 := (HX5.out.2 2 (by decide)).1; have HX5_c3 := (HX5.out.2 3 (by decide)).1; have HX5_c4 := (HX5.out.2 4 (by decide)).1; have HX5_c5 := (HX5.out.2 5 (by decide)).1; have HX5_c6 := (HX5.out.2 6 (by decide)).1; have HX5_c7 := (HX5.out.2 7 (by decide)).1; have HX5_c8 := (HX5.out.2 8 (by decide)).1; have HX5_c9 := (HX5.out.2 9 (by decide)).1; have HX5_c10 := (HX5.out.2 10 (by decide)).1; have HX5_c11 := (HX5.out.2 11 (by decide)).1; have HX5_z := HX5.out.1
  go_wp2_with fail
  refine (T1.out _).mono ?_
  rintro e w6 ⟨rfl, hb⟩
  have hz := hb.size
  (try simp only [World.size_alloc, World.heap_drewN, World.size_drew, World.size_setCell] at hz)
  have HB6 := Lib.hid (show Below w.heap.size w w6 from by have := HB5.out; exact bel)
  have HX6 := Lib.hid (HX5.out.below hb)
  have HA6 := Lib.hid (HA5.out.below hb)
  have Hb6 := Lib.hid (Hb5.out.below hb)
  clear hb HX5 HA5 Hb5 HB5
  clear HX5_c0 HX5_c1 HX5_c2 HX5_c3 HX5_c4 HX5_c5 HX5_c6 HX5_c7 HX5_c8 HX5_c9 HX5_c10 HX5_c11 HX5_z
  have HA6_r := HA6.out.row12; have HA6_c0 := (HA6.out.2 0 (by decide)).1; have HA6_f0 := (HA6.out.2 0 (by decide)).2; have HA6_c1 := (HA6.out.2 1 (by decide)).1; have HA6_f1 := (HA6.out.2 1 (by decide)).2; have HA6_c2 := (HA6.out.2 2 (by decide)).1; have HA6_f2 := (HA6.out.2 2 (by decide)).2; have HA6_c3 := (HA6.out.2 3 (by decide)).1; have HA6_f3 := (HA6.out.2 3 (by decide)).2; have HA6_c4 := (HA6.out.2 4 (by decide)).1; have HA6_f4 := (HA6.out.2 4 (by decide)).2; have HA6_c5 := (HA6.out.2 5 (by decide)).1; have HA6_f5 := (HA6.out.2 5 (by decide)).2; have HA6_c6 := (HA6.out.2 6 (by decide)).1; have HA6_f6 := (HA6.out.2 6 (by decide)).2; have HA6_c7 := (HA6.out.2 7 (by decide)).1; have HA6_f7 := (HA6.out.2 7 (by decide)).2; have HA6_c8 := (HA6.out.2 8 (by decide)).1; have HA6_f8 := (HA6.out.2 8 (by decide)).2; have HA6_c9 := (HA6.out.2 9 (by decide)).1; have HA6_f9 := (HA6.out.2 9 (by decide)).2; have HA6_c10 := (HA6.out.2 10 (by decide)).1; have HA6_f10 := (HA6.out.2 10 (by decide)).2; have HA6_c11 := (HA6.out.2 11 (by decide)).1; have HA6_f11 := (HA6.out.2 11 (by decide)).2; have HA6_z := HA6.out.1
  go_upto_region 8 with fail
  generalize hw7 : World.setCell _ _ _ = w7
  have HA7 := Lib.hid (show Ints w7 w1.heap.size 12 tk from by rw [← hw7]; exact HA6.out.set12 tk)
  have HX7 := Lib.hid (show Ints w7 w.heap.size 12 f from by rw [← hw7]; exact HX6.out.other12 _ tk (by omega))
  have Hb7 := Lib.hid (show Ints w7 w2.heap.size 12 g from by rw [← hw7]; exact Hb6.out.other12 _ tk (by omega))
  have HB7 := Lib.hid (show Below w.heap.size w w7 from by have := HB6.out; rw [← hw7]; exact bel)
  clear hw7 HA6 HX6 Hb6 HB6
  clear HA6_r HA6_f0 HA6_f1 HA6_f2 HA6_f3 HA6_f4 HA6_f5 HA6_f6 HA6_f7 HA6_f8 HA6_f9 HA6_f10 HA6_f11
  clear HA6_c0 HA6_c1 HA6_c2 HA6_c3 HA6_c4 HA6_c5 HA6_c6 HA6_c7 HA6_c8 HA6_c9 HA6_c10 HA6_c11 HA6_z
  have HX7_c0 := (HX7.out.2 0 (by decide)).1; have HX7_c1 := (HX7.out.2 1 (by decide)).1; have HX7_c2 := (HX7.out.2 2 (by decide)).1; have HX7_c3 := (HX7.out.2 3 (by decide)).1; have HX7_c4 := (HX7.out.2 4 (by decide)).1; have HX7_c5 := (HX7.out.2 5 (by decide)).1; have HX7_c6 := (HX7.out.2 6 (by decide)).1; have HX7_c7 := (HX7.out.2 7 (by decide)).1; have HX7_c8 := (HX7.out.2 8 (by decide)).1; have HX7_c9 := (HX7.out.2 9 (by decide)).1; have HX7_c10 := (HX7.out.2 10 (by decide)).1; have HX7_c11 := (HX7.out.2 11 (by decide)).1; have HX7_z := HX7.out.1
  go_wp2_with fail
  refine (T2.out _).mono ?_
  rintro e w8 ⟨rfl, hb⟩
  have hz := hb.size
  (try simp only [World.size_alloc, World.heap_drewN, World.size_drew, World.size_setCell] at hz)
  have HB8 := Lib.hid (show Below w.heap.size w w8 from by have := HB7.out; exact bel)
  have HX8 := Lib.hid (HX7.out.below hb)
  have HA8 := Lib.hid (HA7.out.below hb)
  have Hb8 := Lib.hid (Hb7.out.below hb)
  clear hb HX7 HA7 Hb7 HB7
  clear HX7_c0 HX7_c1 HX7_c2 HX7_c3 HX7_c4 HX7_c5 HX7_c6 HX7_c7 HX7_c8 HX7_c9 HX7_c10 HX7_c11 HX7_z
  have Hb8_r := Hb8.out.row12; have Hb8_c0 := (Hb8.out.2 0 (by decide)).1; have Hb8_f0 := (Hb8.out.2 0 (by decide)).2; have Hb8_c1 := (Hb8.out.2 1 (by decide)).1; have Hb8_f1 := (Hb8.out.2 1 (by decide)).2; have Hb8_c2 := (Hb8.out.2 2 (by decide)).1; have Hb8_f2 := (Hb8.out.2 2 (by decide)).2; have Hb8_c3 := (Hb8.out.2 3 (by decide)).1; have Hb8_f3 := (Hb8.out.2 3 (by decide)).2; have Hb8_c4 := (Hb8.out.2 4 (by decide)).1; have Hb8_f4 := (Hb8.out.2 4 (by decide)).2; have Hb8_c5 := (Hb8.out.2 5 (by decide)).1; have Hb8_f5 := (Hb8.out.2 5 (by decide)).2; have Hb8_c6 := (Hb8.out.2 6 (by decide)).1; have Hb8_f6 := (Hb8.out.2 6 (by decide)).2; have Hb8_c7 := (Hb8.out.2 7 (by decide)).1; have Hb8_f7 := (Hb8.out.2 7 (by decide)).2; have Hb8_c8 := (Hb8.out.2 8 (by decide)).1; have Hb8_f8 := (Hb8.out.2 8 (by decide)).2; have Hb8_c9 := (Hb8.out.2 9 (by decide)).1; have Hb8_f9 := (Hb8.out.2 9 (by decide)).2; have Hb8_c10 := (Hb8.out.2 10 (by decide)).1; have Hb8_f10 := (Hb8.out.2 10 (by decide)).2; have Hb8_c11 := (Hb8.out.2 11 (by decide)).1; have Hb8_f11 := (Hb8.out.2 11 (by decide)).2; have Hb8_z := Hb8.out.1
  go_upto_region 9 with fail
  generalize hw9 : World.setCell _ _ _ = w9
  have Hb9 := Lib.hid (show Ints w9 w2.heap.size 12 tk from by rw [← hw9]; exact Hb8.out.set12 tk)
  have HX9 := Lib.hid (show Ints w9 w.heap.size 12 f from by rw [← hw9]; exact HX8.out.other12 _ tk (by omega))
  have HA9 := Lib.hid (show Ints w9 w1.heap.size 12 tk from by rw [← hw9]; exact HA8.out.other12 _ tk (by omega))
  have HB9 := Lib.hid (show Below w.heap.size w w9 from by have := HB8.out; rw [← hw9]; exact bel)
  clear hw9 HA8 HX8 Hb8 HB8
  clear Hb8_r Hb8_f0 Hb8_f1 Hb8_f2 Hb8_f3 Hb8_f4 Hb8_f5 Hb8_f6 Hb8_f7 Hb8_f8 Hb8_f9 Hb8_f10 Hb8_f11
  clear Hb8_c0 Hb8_c1 Hb8_c2 Hb8_c3 Hb8_c4 Hb8_c5 Hb8_c6 Hb8_c7 Hb8_c8 Hb8_c9 Hb8_c10 Hb8_c11 Hb8_z
  have HX9_c0 := (HX9.out.2 0 (by decide)).1; have HX9_c1 := (HX9.out.2 1 (by decide)).1; have HX9_c2 := (HX9.out.2 2 (by decide)).1; have HX9_c3 := (HX9.out.2 3 (by decide)).1; have HX9_c4 := (HX9.out.2 4 (by decide)).1; have HX9_c5 := (HX9.out.2 5 (by decide)).1; have HX9_c6 := (HX9.out.2 6 (by decide)).1; have HX9_c7 := (HX9.out.2 7 (by decide)).1; have HX9_c8 := (HX9.out.2 8 (by decide)).1; have HX9_c9 := (HX9.out.2 9 (by decide)).1; have HX9_c10 := (HX9.out.2 10 (by decide)).1; have HX9_c11 := (HX9.out.2 11 (by decide)).1; have HX9_z := HX9.out.1
  go_wp2_with fail
  refine (B1.out _).mono ?_
  rintro e w10 ⟨rfl, hb⟩
  have hz := hb.size
  (try simp only [World.size_alloc, World.heap_drewN, World.size_drew, World.size_setCell] at hz)
  have HB10 := Lib.hid (show Below w.heap.size w w10 from by have := HB9.out; exact bel)
  have HX10 := Lib.hid (HX9.out.below hb)
  have HA10 := Lib.hid (HA9.out.below hb)
  have Hb10 := Lib.hid (Hb9.out.below hb)
  clear hb HX9 HA9 Hb9 HB9
  clear HX9_c0 HX9_c1 HX9_c2 HX9_c3 HX9_c4 HX9_c5 HX9_c6 HX9_c7 HX9_c8 HX9_c9 HX9_c10 HX9_c11 HX9_z
  have HX10_c0 := (HX10.out.2 0 (by decide)).1; have HX10_c1 := (HX10.out.2 1 (by decide)).1; have HX10_c2 := (HX10.out.2 2 (by decide)).1; have HX10_c3 := (HX10.out.2 3 (by decide)).1; have HX10_c4 := (HX10.out.2 4 (by decide)).1; have HX10_c5 := (HX10.out.2 5 (by decide)).1; have HX10_c6 := (HX10.out.2 6 (by decide)).1; have HX10_c7 := (HX10.out.2 7 (by decide)).1; have HX10_c8 := (HX10.out.2 8 (by decide)).1; have HX10_c9 := (HX10.out.2 9 (by decide)).1; have HX10_c10 := (HX10.out.2 10 (by decide)).1; have HX10_c11 := (HX10.out.2 11 (by decide)).1; have HX10_z := HX10.out.1
  go_wp2_with fail
  refine (B2.out _).mono ?_
  rintro e w11 ⟨rfl, hb⟩
  have hz := hb.size
  (try simp only [World.size_alloc, World.heap_drewN, World.size_drew, World.size_setCell] at hz)
  have HB11 := Lib.hid (show Below w.heap.size w w11 from by have := HB10.out; exact bel)
  have HX11 := Lib.hid (HX10.out.below hb)
  have HA11 := Lib.hid (HA10.out.below hb)
  have Hb11 := Lib.hid (Hb10.out.below hb)
  clear hb HX10 HA10 Hb10 HB10
  clear HX10_c0 HX10_c1 HX10_c2 HX10_c3 HX10_c4 HX10_c5 HX10_c6 HX10_c7 HX10_c8 HX10_c9 HX10_c10 HX10_c11 HX10_z
  have EQt := hub_same tk
  clear EQg EQc
  go_upto_region 11 with fail
  refine region_below (by kernel_rfl) (by kernel_rfl) ?_
  intro wS HW2
  have HBS := Lib.hid (show Below w.heap.size w wS from by have := HB11.out; rw [← HW2.out]; exact bel)
  have HXS := Lib.hid (show Ints wS w.heap.size 12 f from by rw [← HW2.out]; exact HX11.out)
  have HAS := Lib.hid (show Ints wS w1.heap.size 12 tk from by rw [← HW2.out]; exact HA11.out)
  have HbS := Lib.hid (show Ints wS w2.heap.size 12 tk from by rw [← HW2.out]; exact Hb11.out)
  clear HX11 HA11 Hb11 HB11
  have HXS_c0 := (HXS.out.2 0 (by decide)).1; have HXS_c1 := (HXS.out.2 1 (by decide)).1; have HXS_c2 := (HXS.out.2 2 (by decide)).1; have HXS_c3 := (HXS.out.2 3 (by decide)).1; have HXS_c4 := (HXS.out.2 4 (by decide)).1; have HXS_c5 := (HXS.out.2 5 (by decide)).1; have HXS_c6 := (HXS.out.2 6 (by decide)).1; have HXS_c7 := (HXS.out.2 7 (by decide)).1; have HXS_c8 := (HXS.out.2 8 (by decide)).1; have HXS_c9 := (HXS.out.2 9 (by decide)).1; have HXS_c10 := (HXS.out.2 10 (by decide)).1; have HXS_c11 := (HXS.out.2 11 (by decide)).1; have HXS_z := HXS.out.1
  replace HXS_c0 := cell_regrown HXS_c0; replace HXS_c1 := cell_regrown HXS_c1; replace HXS_c2 := cell_regrown HXS_c2; replace HXS_c3 := cell_regrown HXS_c3; replace HXS_c4 := cell_regrown HXS_c4; replace HXS_c5 := cell_regrown HXS_c5; replace HXS_c6 := cell_regrown HXS_c6; replace HXS_c7 := cell_regrown HXS_c7; replace HXS_c8 := cell_regrown HXS_c8; replace HXS_c9 := cell_regrown HXS_c9; replace HXS_c10 := cell_regrown HXS_c10; replace HXS_c11 := cell_regrown HXS_c11
  have HAS_c0 := (HAS.out.2 0 (by decide)).1; have HAS_c1 := (HAS.out.2 1 (by decide)).1; have HAS_c2 := (HAS.out.2 2 (by decide)).1; have HAS_c3 := (HAS.out.2 3 (by decide)).1; have HAS_c4 := (HAS.out.2 4 (by decide)).1; have HAS_c5 := (HAS.out.2 5 (by decide)).1; have HAS_c6 := (HAS.out.2 6 (by decide)).1; have HAS_c7 := (HAS.out.2 7 (by decide)).1; have HAS_c8 := (HAS.out.2 8 (by decide)).1; have HAS_c9 := (HAS.out.2 9 (by decide)).1; have HAS_c10 := (HAS.out.2 10 (by decide)).1; have HAS_c11 := (HAS.out.2 11 (by decide)).1; have HAS_z := HAS.out.1
  replace HAS_c0 := cell_regrown HAS_c0; replace HAS_c1 := cell_regrown HAS_c1; replace HAS_c2 := cell_regrown HAS_c2; replace HAS_c3 := cell_regrown HAS_c3; replace HAS_c4 := cell_regrown HAS_c4; replace HAS_c5 := cell_regrown HAS_c5; replace HAS_c6 := cell_regrown HAS_c6; replace HAS_c7 := cell_regrown HAS_c7; replace HAS_c8 := cell_regrown HAS_c8; replace HAS_c9 := cell_regrown HAS_c9; replace HAS_c10 := cell_regrown HAS_c10; replace HAS_c11 := cell_regrown HAS_c11
  have HbS_c0 := (HbS.out.2 0 (by decide)).1; have HbS_c1 := (HbS.out.2 1 (by decide)).1; have HbS_c2 := (HbS.out.2 2 (by decide)).1; have HbS_c3 := (HbS.out.2 3 (by decide)).1; have HbS_c4 := (HbS.out.2 4 (by decide)).1; have HbS_c5 := (HbS.out.2 5 (by decide)).1; have HbS_c6 := (HbS.out.2 6 (by decide)).1; have HbS_c7 := (HbS.out.2 7 (by decide)).1; have HbS_c8 := (HbS.out.2 8 (by decide)).1; have HbS_c9 := (HbS.out.2 9 (by decide)).1; have HbS_c10 := (HbS.out.2 10 (by decide)).1; have HbS_c11 := (HbS.out.2 11 (by decide)).1; have HbS_z := HbS.out.1
  replace HbS_c0 := cell_regrown HbS_c0; replace HbS_c1 := cell_regrown HbS_c1; replace HbS_c2 := cell_regrown HbS_c2; replace HbS_c3 := cell_regrown HbS_c3; replace HbS_c4 := cell_regrown HbS_c4; replace HbS_c5 := cell_regrown HbS_c5; replace HbS_c6 := cell_regrown HbS_c6; replace HbS_c7 := cell_regrown HbS_c7; replace HbS_c8 := cell_regrown HbS_c8; replace HbS_c9 := cell_regrown HbS_c9; replace HbS_c10 := cell_regrown HbS_c10; replace HbS_c11 := cell_regrown HbS_c11
  (repeat (first | go_big_quiet_step (first | with_reducible exact Calls.regrown_of (AW.out _) | with_reducible exact Calls.regrown_of (V1.out _) | with_reducible exact Calls.regrown_of (V2.out _)) | quiet_step (first | with_reducible exact Calls.regrown_of (AW.out _) | with_reducible exact Calls.regrown_of (V1.out _) | with_reducible exact Calls.regrown_of (V2.out _)))); refine wpQuiet_nil ?_; intro w12 hb
  have HB12 := Lib.hid (show Below w.heap.size w w12 from by have := HBS.out; exact bthru hb this)
  clear hb
  have := HB12.out
  go_wp2
  go_ret
  exact ⟨rfl, HB12.out⟩
end Go.Proofs.Ytnohgfolejookaa
