
import Derived.Test.YtijgabippedhpaaRows
import Derived.Test.YtijgabippedhpaaGateH
namespace Go.Proofs.Ytijgabippedhpaa
set_option linter.unusedVariables false
set_option linter.unusedSimpArgs false
open Go.ChangeShapes Go.WideShapes Go.RowKit

set_option maxHeartbeats 8000000 in
theorem gateTells_of (hF : CGFits) (hN : CGNote) (hS : CGSettle) (hR : CGRelay) (n : Int) (f : Nat → Int) (va : Value) (m : Nat) (l : Nat → Int) (hn : Bd n) (hf : Bd12 f) (hm : m ≤ maxLen) (w : World) (hl : Prs w va m l) :
    Calls Try.prog 3 #[.int .i64 n, .agg #[.int .i64 (f 0), .int .i64 (f 1), .int .i64 (f 2), .int .i64 (f 3), .int .i64 (f 4), .int .i64 (f 5), .int .i64 (f 6), .int .i64 (f 7), .int .i64 (f 8), .int .i64 (f 9), .int .i64 (f 10), .int .i64 (f 11)], va] w fun e w' => e = .returned (.bool true) ∧ Below w.heap.size w w' := by
  have AW := Lib.hid (awake12_of hF hS hR)
  obtain ⟨p1, c1, rfl⟩ := hl.form
  by_cases h20 : (m : Int) ≤ 20
  · have hm20 : m ≤ 1000 := by omega
    have N1 := Lib.hid (fun w hl => hN n f (.slice p1 m c1) m l w hn hf hm20 hl)
    have N2 := Lib.hid (fun w hl => refGNote_any n f (.slice p1 m c1) m l w hm hl)
    have S1 := Lib.hid (fun w => hS n f w hn hf)
    have S2 := Lib.hid (fun w => refGSettle_any n f w)
    have R1 := Lib.hid (fun w hl => hR n f (.slice p1 m c1) m l w hn hf hm20 hl)
    have R2 := Lib.hid (fun w hl => refGRelay_any n f (.slice p1 m c1) m l w hm hl)
    have F1 := Lib.hid (fun w hl => hF n (.slice p1 m c1) m l w hn hm20 hl)
    have F2 := Lib.hid (fun w hl => refGFits_any n (.slice p1 m c1) m l w hm hl)
    have HL := Lib.hid hl
    generalize noted n f m l = na at *
    generalize Gate.wrong n f m l = er at *
    generalize Gate.settle n f = st at *
    generalize Vote.tickErr n f = te at *
    generalize relayH n f m l = rh at *
    generalize relayF n f m l = rf at *
    generalize Gate.fits n m l = fi at *
    clear hF hN hS hR hn hf hm hl hm20
    go_enter Try.func3, Try.ntmps3
    go_wp2_with fail
    have HX0 := Lib.hid (Ints.box w f 24)
    refine (N1.out _ (HL.out.below bel)).mono ?_
    rintro e w1 ⟨rfl, hb⟩
    have hz := hb.size
    (try simp only [World.size_alloc, World.heap_drewN, World.size_drew, World.size_setCell] at hz)
    have HB1 := Lib.hid (show Below w.heap.size w w1 from by exact bel)
    have HX1 := Lib.hid (HX0.out.below hb)
    (try simp only [World.size_alloc] at HX1)
    clear hb HX0
    have HX1_c0 := (HX1.out.2 0 (by decide)).1; have HX1_c1 := (HX1.out.2 1 (by decide)).1; have HX1_c2 := (HX1.out.2 2 (by decide)).1; have HX1_c3 := (HX1.out.2 3 (by decide)).1; have HX1_c4 := (HX1.out.2 4 (by decide)).1; have HX1_c5 := (HX1.out.2 5 (by decide)).1; have HX1_c6 := (HX1.out.2 6 (by decide)).1; have HX1_c7 := (HX1.out.2 7 (by decide)).1; have HX1_c8 := (HX1.out.2 8 (by decide)).1; have HX1_c9 := (HX1.out.2 9 (by decide)).1; have HX1_c10 := (HX1.out.2 10 (by decide)).1; have HX1_c11 := (HX1.out.2 11 (by decide)).1; have HX1_z := HX1.out.1
    go_wp2_with fail
    refine (N2.out _ (HL.out.below (by have := HB1.out; exact bel))).mono ?_
    rintro e w2 ⟨rfl, hb⟩
    have hz := hb.size
    (try simp only [World.size_alloc, World.heap_drewN, World.size_drew, World.size_setCell] at hz)
    have HB2 := Lib.hid (show Below w.heap.size w w2 from by have := HB1.out; exact bel)
    have HX2 := Lib.hid ((HX1.out.alloc _).below hb)
    have HP2 := Lib.hid ((Ints.box w1 na 24).below hb)
    (try simp only [World.size_alloc] at HX2)
    (try simp only [World.size_alloc] at HP2)
    clear hb HX1 HB1
    clear HX1_c0 HX1_c1 HX1_c2 HX1_c3 HX1_c4 HX1_c5 HX1_c6 HX1_c7 HX1_c8 HX1_c9 HX1_c10 HX1_c11 HX1_z
    have HX2_c0 := (HX2.out.2 0 (by decide)).1; have HX2_c1 := (HX2.out.2 1 (by decide)).1; have HX2_c2 := (HX2.out.2 2 (by decide)).1; have HX2_c3 := (HX2.out.2 3 (by decide)).1; have HX2_c4 := (HX2.out.2 4 (by decide)).1; have HX2_c5 := (HX2.out.2 5 (by decide)).1; have HX2_c6 := (HX2.out.2 6 (by decide)).1; have HX2_c7 := (HX2.out.2 7 (by decide)).1; have HX2_c8 := (HX2.out.2 8 (by decide)).1; have HX2_c9 := (HX2.out.2 9 (by decide)).1; have HX2_c10 := (HX2.out.2 10 (by decide)).1; have HX2_c11 := (HX2.out.2 11 (by decide)).1; have HX2_z := HX2.out.1
    go_wp2_with fail
    refine (S1.out _).mono ?_
    rintro e w3 ⟨rfl, hb⟩
    have hz := hb.size
    (try simp only [World.size_alloc, World.heap_drewN, World.size_drew, World.size_setCell] at hz)
    have HB3 := Lib.hid (show Below w.heap.size w w3 from by have := HB2.out; exact bel)
    have HX3 := Lib.hid ((HX2.out.alloc _).below hb)
    have HP3 := Lib.hid ((HP2.out.alloc _).below hb)
    have HQ3 := Lib.hid ((Ints.box w2 na 24).below hb)
    (try simp only [World.size_alloc] at HX3)
    (try simp only [World.size_alloc] at HP3)
    (try simp only [World.size_alloc] at HQ3)
    clear hb HX2 HP2 HB2
    clear HX2_c0 HX2_c1 HX2_c2 HX2_c3 HX2_c4 HX2_c5 HX2_c6 HX2_c7 HX2_c8 HX2_c9 HX2_c10 HX2_c11 HX2_z
    have HX3_c0 := (HX3.out.2 0 (by decide)).1; have HX3_c1 := (HX3.out.2 1 (by decide)).1; have HX3_c2 := (HX3.out.2 2 (by decide)).1; have HX3_c3 := (HX3.out.2 3 (by decide)).1; have HX3_c4 := (HX3.out.2 4 (by decide)).1; have HX3_c5 := (HX3.out.2 5 (by decide)).1; have HX3_c6 := (HX3.out.2 6 (by decide)).1; have HX3_c7 := (HX3.out.2 7 (by decide)).1; have HX3_c8 := (HX3.out.2 8 (by decide)).1; have HX3_c9 := (HX3.out.2 9 (by decide)).1; have HX3_c10 := (HX3.out.2 10 (by decide)).1; have HX3_c11 := (HX3.out.2 11 (by decide)).1; have HX3_z := HX3.out.1
    go_wp2_with fail
    refine (S2.out _).mono ?_
    rintro e w4 ⟨rfl, hb⟩
    have hz := hb.size
    (try simp only [World.size_alloc, World.heap_drewN, World.size_drew, World.size_setCell] at hz)
    have HB4 := Lib.hid (show Below w.heap.size w w4 from by have := HB3.out; exact bel)
    have HX4 := Lib.hid ((HX3.out.alloc _).below hb)
    have HP4 := Lib.hid ((HP3.out.alloc _).below hb)
    have HQ4 := Lib.hid ((HQ3.out.alloc _).below hb)
    have HC4 := Lib.hid ((Ints.box w3 st 24).below hb)
    (try simp only [World.size_alloc] at HX4)
    (try simp only [World.size_alloc] at HP4)
    (try simp only [World.size_alloc] at HQ4)
    (try simp only [World.size_alloc] at HC4)
    clear hb HX3 HP3 HQ3 HB3
    clear HX3_c0 HX3_c1 HX3_c2 HX3_c3 HX3_c4 HX3_c5 HX3_c6 HX3_c7 HX3_c8 HX3_c9 HX3_c10 HX3_c11 HX3_z
    have HX4_c0 := (HX4.out.2 0 (by decide)).1; have HX4_c1 := (HX4.out.2 1 (by decide)).1; have HX4_c2 := (HX4.out.2 2 (by decide)).1; have HX4_c3 := (HX4.out.2 3 (by decide)).1; have HX4_c4 := (HX4.out.2 4 (by decide)).1; have HX4_c5 := (HX4.out.2 5 (by decide)).1; have HX4_c6 := (HX4.out.2 6 (by decide)).1; have HX4_c7 := (HX4.out.2 7 (by decide)).1; have HX4_c8 := (HX4.out.2 8 (by decide)).1; have HX4_c9 := (HX4.out.2 9 (by decide)).1; have HX4_c10 := (HX4.out.2 10 (by decide)).1; have HX4_c11 := (HX4.out.2 11 (by decide)).1; have HX4_z := HX4.out.1
    go_wp2_with fail
    refine (R1.out _ (HL.out.below (by have := HB4.out; exact bel))).mono ?_
    rintro e w5 ⟨rfl, hb⟩
    have hz := hb.size
    (try simp only [World.size_alloc, World.heap_drewN, World.size_drew, World.size_setCell] at hz)
    have HB5 := Lib.hid (show Below w.heap.size w w5 from by have := HB4.out; exact bel)
    have HX5 := Lib.hid ((HX4.out.alloc _).below hb)
    have HP5 := Lib.hid ((HP4.out.alloc _).below hb)
    have HQ5 := Lib.hid ((HQ4.out.alloc _).below hb)
    have HC5 := Lib.hid ((HC4.out.alloc _).below hb)
    have HD5 := Lib.hid ((Ints.box w4 st 24).below hb)
    (try simp only [World.size_alloc] at HX5)
    (try simp only [World.size_alloc] at HP5)
    (try simp only [World.size_alloc] at HQ5)
    (try simp only [World.size_alloc] at HC5)
    (try simp only [World.size_alloc] at HD5)
    clear hb HX4 HP4 HQ4 HC4 HB4
    clear HX4_c0 HX4_c1 HX4_c2 HX4_c3 HX4_c4 HX4_c5 HX4_c6 HX4_c7 HX4_c8 HX4_c9 HX4_c10 HX4_c11 HX4_z
    have HX5_c0 := (HX5.out.2 0 (by decide)).1; have HX5_c1 := (HX5.out.2 1 (by decide)).1; have HX5_c2 := (HX5.out.2 2 (by decide)).1; have HX5_c3 := (HX5.out.2 3 (by decide)).1; have HX5_c4 := (HX5.out.2 4 (by decide)).1; have HX5_c5 := (HX5.out.2 5 (by decide)).1; have HX5_c6 := (HX5.out.2 6 (by decide)).1; have HX5_c7 := (HX5.out.2 7 (by decide)).1; have HX5_c8 := (HX5.out.2 8 (by decide)).1; have HX5_c9 := (HX5.out.2 9 (by decide)).1; have HX5_c10 := (HX5.out.2 10 (by decide)).1; have HX5_c11 := (HX5.out.2 11 (by decide)).1; have HX5_z := HX5.out.1
    go_wp2_with fail
    refine (R2.out _ (HL.out.below (by have := HB5.out; exact bel))).mono ?_
    rintro e w6 ⟨rfl, hb⟩
    have hz := hb.size
    (try simp only [World.size_alloc, World.heap_drewN, World.size_drew, World.size_setCell] at hz)
    have HB6 := Lib.hid (show Below w.heap.size w w6 from by have := HB5.out; exact bel)
    have HX6 := Lib.hid (((HX5.out.alloc _).alloc _).below hb)
    have HP6 := Lib.hid (((HP5.out.alloc _).alloc _).below hb)
    have HQ6 := Lib.hid (((HQ5.out.alloc _).alloc _).below hb)
    have HC6 := Lib.hid (((HC5.out.alloc _).alloc _).below hb)
    have HD6 := Lib.hid (((HD5.out.alloc _).alloc _).below hb)
    have HE6 := Lib.hid (((Ints.box w5 rh 24).alloc _).below hb)
    have HF6 := Lib.hid ((Ints.two (w5.alloc (.cells #[.int .i64 (rh 0), .int .i64 (rh 1), .int .i64 (rh 2), .int .i64 (rh 3), .int .i64 (rh 4), .int .i64 (rh 5), .int .i64 (rh 6), .int .i64 (rh 7), .int .i64 (rh 8), .int .i64 (rh 9), .int .i64 (rh 10), .int .i64 (rh 11)] 24)) (rf 0) (rf 1) 32 rf rfl rfl).below hb)
    (try simp only [World.size_alloc] at HX6)
    (try simp only [World.size_alloc] at HP6)
    (try simp only [World.size_alloc] at HQ6)
    (try simp only [World.size_alloc] at HC6)
    (try simp only [World.size_alloc] at HD6)
    (try simp only [World.size_alloc] at HE6)
    (try simp only [World.size_alloc] at HF6)
    clear hb HX5 HP5 HQ5 HC5 HD5 HB5
    clear HX5_c0 HX5_c1 HX5_c2 HX5_c3 HX5_c4 HX5_c5 HX5_c6 HX5_c7 HX5_c8 HX5_c9 HX5_c10 HX5_c11 HX5_z
    clear HX6
    go_wp2_with fail
    refine (AW.out _).mono ?_
    rintro e w7 ⟨rfl, hb⟩
    have hz := hb.size
    (try simp only [World.size_alloc, World.heap_drewN, World.size_drew, World.size_setCell] at hz)
    have HB7 := Lib.hid (show Below w.heap.size w w7 from by have := HB6.out; exact bel)
    have HP7 := Lib.hid (((HP6.out.alloc _).alloc _).below hb)
    have HQ7 := Lib.hid (((HQ6.out.alloc _).alloc _).below hb)
    have HC7 := Lib.hid (((HC6.out.alloc _).alloc _).below hb)
    have HD7 := Lib.hid (((HD6.out.alloc _).alloc _).below hb)
    have HE7 := Lib.hid (((HE6.out.alloc _).alloc _).below hb)
    have HF7 := Lib.hid (((HF6.out.alloc _).alloc _).below hb)
    have HG7 := Lib.hid (((Ints.box w6 rh 24).alloc _).below hb)
    have HH7 := Lib.hid ((Ints.two (w6.alloc (.cells #[.int .i64 (rh 0), .int .i64 (rh 1), .int .i64 (rh 2), .int .i64 (rh 3), .int .i64 (rh 4), .int .i64 (rh 5), .int .i64 (rh 6), .int .i64 (rh 7), .int .i64 (rh 8), .int .i64 (rh 9), .int .i64 (rh 10), .int .i64 (rh 11)] 24)) (rf 0) (rf 1) 32 rf rfl rfl).below hb)
    (try simp only [World.size_alloc] at HP7)
    (try simp only [World.size_alloc] at HQ7)
    (try simp only [World.size_alloc] at HC7)
    (try simp only [World.size_alloc] at HD7)
    (try simp only [World.size_alloc] at HE7)
    (try simp only [World.size_alloc] at HF7)
    (try simp only [World.size_alloc] at HG7)
    (try simp only [World.size_alloc] at HH7)
    clear hb HP6 HQ6 HC6 HD6 HE6 HF6 HB6
    go_wp2_with fail
    refine (F1.out _ (HL.out.below HB7.out)).mono ?_
    rintro e w8 ⟨rfl, hb⟩
    have hz := hb.size
    (try simp only [World.size_alloc, World.heap_drewN, World.size_drew, World.size_setCell] at hz)
    have HB8 := Lib.hid (show Below w.heap.size w w8 from by have := HB7.out; exact bel)
    have HP8 := Lib.hid (HP7.out.below hb)
    have HQ8 := Lib.hid (HQ7.out.below hb)
    have HC8 := Lib.hid (HC7.out.below hb)
    have HD8 := Lib.hid (HD7.out.below hb)
    have HE8 := Lib.hid (HE7.out.below hb)
    have HF8 := Lib.hid (HF7.out.below hb)
    have HG8 := Lib.hid (HG7.out.below hb)
    have HH8 := Lib.hid (HH7.out.below hb)
    (try simp only [World.size_alloc] at HP8)
    (try simp only [World.size_alloc] at HQ8)
    (try simp only [World.size_alloc] at HC8)
    (try simp only [World.size_alloc] at HD8)
    (try simp only [World.size_alloc] at HE8)
    (try simp only [World.size_alloc] at HF8)
    (try simp only [World.size_alloc] at HG8)
    (try simp only [World.size_alloc] at HH8)
    clear hb HP7 HQ7 HC7 HD7 HE7 HF7 HG7 HH7 HB7
    go_wp2_with fail
    refine (F2.out _ (HL.out.below HB8.out)).mono ?_
    rintro e w9 ⟨rfl, hb⟩
    have hz := hb.size
    (try simp only [World.size_alloc, World.heap_drewN, World.size_drew, World.size_setCell] at hz)
    have HB9 := Lib.hid (show Below w.heap.size w w9 from by have := HB8.out; exact bel)
    have HP9 := Lib.hid (HP8.out.below hb)
    have HQ9 := Lib.hid (HQ8.out.below hb)
    have HC9 := Lib.hid (HC8.out.below hb)
    have HD9 := Lib.hid (HD8.out.below hb)
    have HE9 := Lib.hid (HE8.out.below hb)
    have HF9 := Lib.hid (HF8.out.below hb)
    have HG9 := Lib.hid (HG8.out.below hb)
    have HH9 := Lib.hid (HH8.out.below hb)
    (try simp only [World.size_alloc] at HP9)
    (try simp only [World.size_alloc] at HQ9)
    (try simp only [World.size_alloc] at HC9)
    (try simp only [World.size_alloc] at HD9)
    (try simp only [World.size_alloc] at HE9)
    (try simp only [World.size_alloc] at HF9)
    (try simp only [World.size_alloc] at HG9)
    (try simp only [World.size_alloc] at HH9)
    clear hb HP8 HQ8 HC8 HD8 HE8 HF8 HG8 HH8 HB8
    have HP9_c0 := (HP9.out.2 0 (by decide)).1; have HP9_c1 := (HP9.out.2 1 (by decide)).1; have HP9_c2 := (HP9.out.2 2 (by decide)).1; have HP9_c3 := (HP9.out.2 3 (by decide)).1; have HP9_c4 := (HP9.out.2 4 (by decide)).1; have HP9_c5 := (HP9.out.2 5 (by decide)).1; have HP9_c6 := (HP9.out.2 6 (by decide)).1; have HP9_c7 := (HP9.out.2 7 (by decide)).1; have HP9_c8 := (HP9.out.2 8 (by decide)).1; have HP9_c9 := (HP9.out.2 9 (by decide)).1; have HP9_c10 := (HP9.out.2 10 (by decide)).1; have HP9_c11 := (HP9.out.2 11 (by decide)).1; have HP9_z := HP9.out.1
    have HQ9_c0 := (HQ9.out.2 0 (by decide)).1; have HQ9_c1 := (HQ9.out.2 1 (by decide)).1; have HQ9_c2 := (HQ9.out.2 2 (by decide)).1; have HQ9_c3 := (HQ9.out.2 3 (by decide)).1; have HQ9_c4 := (HQ9.out.2 4 (by decide)).1; have HQ9_c5 := (HQ9.out.2 5 (by decide)).1; have HQ9_c6 := (HQ9.out.2 6 (by decide)).1; have HQ9_c7 := (HQ9.out.2 7 (by decide)).1; have HQ9_c8 := (HQ9.out.2 8 (by decide)).1; have HQ9_c9 := (HQ9.out.2 9 (by decide)).1; have HQ9_c10 := (HQ9.out.2 10 (by decide)).1; have HQ9_c11 := (HQ9.out.2 11 (by decide)).1; have HQ9_z := HQ9.out.1
    have HC9_c0 := (HC9.out.2 0 (by decide)).1; have HC9_c1 := (HC9.out.2 1 (by decide)).1; have HC9_c2 := (HC9.out.2 2 (by decide)).1; have HC9_c3 := (HC9.out.2 3 (by decide)).1; have HC9_c4 := (HC9.out.2 4 (by decide)).1; have HC9_c5 := (HC9.out.2 5 (by decide)).1; have HC9_c6 := (HC9.out.2 6 (by decide)).1; have HC9_c7 := (HC9.out.2 7 (by decide)).1; have HC9_c8 := (HC9.out.2 8 (by decide)).1; have HC9_c9 := (HC9.out.2 9 (by decide)).1; have HC9_c10 := (HC9.out.2 10 (by decide)).1; have HC9_c11 := (HC9.out.2 11 (by decide)).1; have HC9_z := HC9.out.1
    have HD9_c0 := (HD9.out.2 0 (by decide)).1; have HD9_c1 := (HD9.out.2 1 (by decide)).1; have HD9_c2 := (HD9.out.2 2 (by decide)).1; have HD9_c3 := (HD9.out.2 3 (by decide)).1; have HD9_c4 := (HD9.out.2 4 (by decide)).1; have HD9_c5 := (HD9.out.2 5 (by decide)).1; have HD9_c6 := (HD9.out.2 6 (by decide)).1; have HD9_c7 := (HD9.out.2 7 (by decide)).1; have HD9_c8 := (HD9.out.2 8 (by decide)).1; have HD9_c9 := (HD9.out.2 9 (by decide)).1; have HD9_c10 := (HD9.out.2 10 (by decide)).1; have HD9_c11 := (HD9.out.2 11 (by decide)).1; have HD9_z := HD9.out.1
    have HE9_c0 := (HE9.out.2 0 (by decide)).1; have HE9_c1 := (HE9.out.2 1 (by decide)).1; have HE9_c2 := (HE9.out.2 2 (by decide)).1; have HE9_c3 := (HE9.out.2 3 (by decide)).1; have HE9_c4 := (HE9.out.2 4 (by decide)).1; have HE9_c5 := (HE9.out.2 5 (by decide)).1; have HE9_c6 := (HE9.out.2 6 (by decide)).1; have HE9_c7 := (HE9.out.2 7 (by decide)).1; have HE9_c8 := (HE9.out.2 8 (by decide)).1; have HE9_c9 := (HE9.out.2 9 (by decide)).1; have HE9_c10 := (HE9.out.2 10 (by decide)).1; have HE9_c11 := (HE9.out.2 11 (by decide)).1; have HE9_z := HE9.out.1
    have HG9_c0 := (HG9.out.2 0 (by decide)).1; have HG9_c1 := (HG9.out.2 1 (by decide)).1; have HG9_c2 := (HG9.out.2 2 (by decide)).1; have HG9_c3 := (HG9.out.2 3 (by decide)).1; have HG9_c4 := (HG9.out.2 4 (by decide)).1; have HG9_c5 := (HG9.out.2 5 (by decide)).1; have HG9_c6 := (HG9.out.2 6 (by decide)).1; have HG9_c7 := (HG9.out.2 7 (by decide)).1; have HG9_c8 := (HG9.out.2 8 (by decide)).1; have HG9_c9 := (HG9.out.2 9 (by decide)).1; have HG9_c10 := (HG9.out.2 10 (by decide)).1; have HG9_c11 := (HG9.out.2 11 (by decide)).1; have HG9_z := HG9.out.1
    have f0 := (HF9.out.2 0 (by decide)).1
    have f1 := (HF9.out.2 1 (by decide)).1
    have g0 := (HH9.out.2 0 (by decide)).1
    have g1 := (HH9.out.2 1 (by decide)).1
    have EQn := hub_same na
    have EQs := hub_same st
    have EQr := hub_same rh
    have := HB9.out
    go_wp2
    go_ret
    exact ⟨rfl, bel⟩
  · clear hF hN hS hR hn hf hm hl
    go_enter Try.func3, Try.ntmps3
    go_wp2_with fail
    refine (AW.out _).mono ?_; rintro e w1 ⟨rfl, hb⟩; have hz := hb.size; (try simp only [World.size_alloc, World.heap_drewN, World.size_drew, World.size_setCell] at hz)
    go_wp2
    go_ret
    exact ⟨rfl, bel⟩
end Go.Proofs.Ytijgabippedhpaa
