
import Derived.Test.YtkdmmomfolhfbaaRows
import Derived.Test.YtkdmmomfolhfbaaHubK
import Derived.Test.YtkdmmomfolhfbaaGateZ
import Derived.Test.YtkdmmomfolhfbaaGateV
namespace Go.Proofs.Ytkdmmomfolhfbaa
set_option linter.unusedVariables false
set_option linter.unusedSimpArgs false
open Go.ChangeShapes Go.WideShapes Go.RowKit

set_option maxHeartbeats 4000000 in
theorem hStep_yes (n : Int) (f : Nat → Int) (va : Value) (m : Nat) (l : Nat → Int) (w : World) (hf : Bd12 f) (hm : m ≤ 1000) (hl : Prs w va m l) (h : Gate.wrong n f m l = 0) :
    Calls Try.prog 11 #[.int .i64 n, .agg #[.int .i64 (f 0), .int .i64 (f 1), .int .i64 (f 2), .int .i64 (f 3), .int .i64 (f 4), .int .i64 (f 5), .int .i64 (f 6), .int .i64 (f 7), .int .i64 (f 8), .int .i64 (f 9), .int .i64 (f 10), .int .i64 (f 11)], va] w fun e w' => e = .returned (.tuple #[.agg #[.int .i64 (Hub.step n f l m 0), .int .i64 (Hub.step n f l m 1), .int .i64 (Hub.step n f l m 2), .int .i64 (Hub.step n f l m 3), .int .i64 (Hub.step n f l m 4), .int .i64 (Hub.step n f l m 5), .int .i64 (Hub.step n f l m 6), .int .i64 (Hub.step n f l m 7), .int .i64 (Hub.step n f l m 8), .int .i64 (Hub.step n f l m 9), .int .i64 (Hub.step n f l m 10), .int .i64 (Hub.step n f l m 11)], .agg #[.int .i64 (Hub.out n f l m 0), .int .i64 (Hub.out n f l m 1)], .int .i64 0]) ∧ Below w.heap.size w w' := by
  obtain ⟨p1, c1, rfl⟩ := hl.form
  obtain ⟨hok, hfit⟩ := Gate.wrong_of h
  have ok1 := Vote.ok_tick hok
  have ok2 := Hub.ok_noted (l := l) hok
  have ok3 := Hub.ok_mid (l := l) hok
  have TT := Lib.hid (fun w => vTick_any n f w hf)
  rw [tickErr_yes (Vote.ok_iff.2 hok)] at TT
  have NN := Lib.hid (fun w hl => gNote_any n (Vote.tick n f) (.slice p1 m c1) m l w (ok_bd ok1) hm hl)
  rw [Gate.wrong_zero ok1 hfit, show noted n (Vote.tick n f) m l = Gate.note n (Vote.tick n f) l from funext fun j => noted_yes (Gate.wrong_zero ok1 hfit) j] at NN
  have SS := Lib.hid (fun w => gSettle_any n (Gate.note n (Vote.tick n f) l) w (ok_bd ok2))
  rw [tickErr_yes (Vote.ok_iff.2 ok2), show Gate.settle n (Gate.note n (Vote.tick n f) l) = Hub.mid n f l from rfl] at SS
  have LL := Lib.hid (fun w hl => gRelay_any n (Hub.mid n f l) (.slice p1 m c1) m l w (ok_bd ok3) hm hl)
  have w3 := Gate.wrong_zero ok3 hfit
  rw [relayH_yes w3, relayF_yes w3, w3, show Gate.relay n (Hub.mid n f l) l m = Hub.step n f l m from rfl, show Gate.relayed n (Hub.mid n f l) l m = Hub.out n f l m from rfl] at LL
  have HL := Lib.hid hl
  generalize Hub.step n f l m = st at *
  generalize Hub.out n f l m = ou at *
  generalize Hub.mid n f l = mi at *
  generalize Gate.note n (Vote.tick n f) l = no at *
  generalize Vote.tick n f = ti at *
  clear hok hfit ok1 ok2 ok3 w3 hl h hf
  go_enter Try.func11, Try.ntmps11
  go_wp2_with fail
  have HX0 := Lib.hid (((Ints.box w f 24).alloc (.cells #[.int .i64 ((fun _ => (0 : Int)) 0), .int .i64 ((fun _ => (0 : Int)) 1), .int .i64 ((fun _ => (0 : Int)) 2), .int .i64 ((fun _ => (0 : Int)) 3), .int .i64 ((fun _ => (0 : Int)) 4), .int .i64 ((fun _ => (0 : Int)) 5), .int .i64 ((fun _ => (0 : Int)) 6), .int .i64 ((fun _ => (0 : Int)) 7), .int .i64 ((fun _ => (0 : Int)) 8), .int .i64 ((fun _ => (0 : Int)) 9), .int .i64 ((fun _ => (0 : Int)) 10), .int .i64 ((fun _ => (0 : Int)) 11)] 24)).alloc (.cells #[.int .i64 0, .int .i64 0] 33))
  have HZ0 := Lib.hid ((Ints.zeros (w.alloc (.cells #[.int .i64 (f 0), .int .i64 (f 1), .int .i64 (f 2), .int .i64 (f 3), .int .i64 (f 4), .int .i64 (f 5), .int .i64 (f 6), .int .i64 (f 7), .int .i64 (f 8), .int .i64 (f 9), .int .i64 (f 10), .int .i64 (f 11)] 24)) 24).alloc (.cells #[.int .i64 0, .int .i64 0] 33))
  have HF0 := Lib.hid (Ints.two ((w.alloc (.cells #[.int .i64 (f 0), .int .i64 (f 1), .int .i64 (f 2), .int .i64 (f 3), .int .i64 (f 4), .int .i64 (f 5), .int .i64 (f 6), .int .i64 (f 7), .int .i64 (f 8), .int .i64 (f 9), .int .i64 (f 10), .int .i64 (f 11)] 24)).alloc (.cells #[.int .i64 ((fun _ => (0 : Int)) 0), .int .i64 ((fun _ => (0 : Int)) 1), .int .i64 ((fun _ => (0 : Int)) 2), .int .i64 ((fun _ => (0 : Int)) 3), .int .i64 ((fun _ => (0 : Int)) 4), .int .i64 ((fun _ => (0 : Int)) 5), .int .i64 ((fun _ => (0 : Int)) 6), .int .i64 ((fun _ => (0 : Int)) 7), .int .i64 ((fun _ => (0 : Int)) 8), .int .i64 ((fun _ => (0 : Int)) 9), .int .i64 ((fun _ => (0 : Int)) 10), .int .i64 ((fun _ => (0 : Int)) 11)] 24)) 0 0 33 (fun _ => 0) rfl rfl)
  refine (TT.out _).mono ?_; rintro e w1 ⟨rfl, hb⟩; have hz := hb.size; (try simp only [World.size_alloc, World.heap_drewN, World.size_drew, World.size_setCell] at hz)
  have HB1 := Lib.hid (show Below w.heap.size w w1 from by exact bel)
  have HX1 := Lib.hid (HX0.out.below hb)
  have HZ1 := Lib.hid (HZ0.out.below hb)
  have HF1 := Lib.hid (HF0.out.below hb)
  simp only [World.size_alloc] at HX1 HZ1 HF1
  clear hb HX0 HZ0 HF0
  have HX1_r := HX1.out.row12; have HX1_c0 := (HX1.out.2 0 (by decide)).1; have HX1_f0 := (HX1.out.2 0 (by decide)).2; have HX1_c1 := (HX1.out.2 1 (by decide)).1; have HX1_f1 := (HX1.out.2 1 (by decide)).2; have HX1_c2 := (HX1.out.2 2 (by decide)).1; have HX1_f2 := (HX1.out.2 2 (by decide)).2; have HX1_c3 := (HX1.out.2 3 (by decide)).1; have HX1_f3 := (HX1.out.2 3 (by decide)).2; have HX1_c4 := (HX1.out.2 4 (by decide)).1; have HX1_f4 := (HX1.out.2 4 (by decide)).2; have HX1_c5 := (HX1.out.2 5 (by decide)).1; have HX1_f5 := (HX1.out.2 5 (by decide)).2; have HX1_c6 := (HX1.out.2 6 (by decide)).1; have HX1_f6 := (HX1.out.2 6 (by decide)).2; have HX1_c7 := (HX1.out.2 7 (by decide)).1; have HX1_f7 := (HX1.out.2 7 (by decide)).2; have HX1_c8 := (HX1.out.2 8 (by decide)).1; have HX1_f8 := (HX1.out.2 8 (by decide)).2; have HX1_c9 := (HX1.out.2 9 (by decide)).1; have HX1_f9 := (HX1.out.2 9 (by decide)).2; have HX1_c10 := (HX1.out.2 10 (by decide)).1; have HX1_f10 := (HX1.out.2 10 (by decide)).2; have HX1_c11 := (HX1.out.2 11 (by decide)).1; have HX1_f11 := (HX1.out.2 11 (by decide)).2; have HX1_z := HX1.out.1
  go_upto_region 2 with fail
  generalize hw2 : World.setCell _ _ _ = w2
  have HX2 := Lib.hid (show Ints w2 w.heap.size 12 ti from by rw [← hw2]; exact HX1.out.set12 ti)
  have HZ2 := Lib.hid (show Ints w2 (w.heap.size + 1) 12 (fun _ => 0) from by rw [← hw2]; exact HZ1.out.other12 _ ti (by omega))
  have HF2 := Lib.hid (show Ints w2 (w.heap.size + 1 + 1) 2 (fun _ => 0) from by rw [← hw2]; exact HF1.out.other12 _ ti (by omega))
  have HB2 := Lib.hid (show Below w.heap.size w w2 from by have := HB1.out; rw [← hw2]; exact bel)
  clear hw2 HX1 HZ1 HF1 HB1 HX1_r HX1_f0 HX1_f1 HX1_f2 HX1_f3 HX1_f4 HX1_f5 HX1_f6 HX1_f7 HX1_f8 HX1_f9 HX1_f10 HX1_f11
  clear HX1_c0 HX1_c1 HX1_c2 HX1_c3 HX1_c4 HX1_c5 HX1_c6 HX1_c7 HX1_c8 HX1_c9 HX1_c10 HX1_c11 HX1_z
  have HX2_c0 := (HX2.out.2 0 (by decide)).1; have HX2_c1 := (HX2.out.2 1 (by decide)).1; have HX2_c2 := (HX2.out.2 2 (by decide)).1; have HX2_c3 := (HX2.out.2 3 (by decide)).1; have HX2_c4 := (HX2.out.2 4 (by decide)).1; have HX2_c5 := (HX2.out.2 5 (by decide)).1; have HX2_c6 := (HX2.out.2 6 (by decide)).1; have HX2_c7 := (HX2.out.2 7 (by decide)).1; have HX2_c8 := (HX2.out.2 8 (by decide)).1; have HX2_c9 := (HX2.out.2 9 (by decide)).1; have HX2_c10 := (HX2.out.2 10 (by decide)).1; have HX2_c11 := (HX2.out.2 11 (by decide)).1; have HX2_z := HX2.out.1
  go_wp2_with fail
  refine (NN.out _ (HL.out.below HB2.out)).mono ?_; rintro e w3 ⟨rfl, hb⟩; have hz := hb.size; (try simp only [World.size_alloc, World.heap_drewN, World.size_drew, World.size_setCell] at hz)
  have HB3 := Lib.hid (show Below w.heap.size w w3 from by have := HB2.out; exact bel)
  have HX3 := Lib.hid (HX2.out.below hb)
  have HZ3 := Lib.hid (HZ2.out.below hb)
  have HF3 := Lib.hid (HF2.out.below hb)
  clear hb HX2 HZ2 HF2 HB2
  clear HX2_c0 HX2_c1 HX2_c2 HX2_c3 HX2_c4 HX2_c5 HX2_c6 HX2_c7 HX2_c8 HX2_c9 HX2_c10 HX2_c11 HX2_z
  have HX3_r := HX3.out.row12; have HX3_c0 := (HX3.out.2 0 (by decide)).1; have HX3_f0 := (HX3.out.2 0 (by decide)).2; have HX3_c1 := (HX3.out.2 1 (by decide)).1; have HX3_f1 := (HX3.out.2 1 (by decide)).2; have HX3_c2 := (HX3.out.2 2 (by decide)).1; have HX3_f2 := (HX3.out.2 2 (by decide)).2; have HX3_c3 := (HX3.out.2 3 (by decide)).1; have HX3_f3 := (HX3.out.2 3 (by decide)).2; have HX3_c4 := (HX3.out.2 4 (by decide)).1; have HX3_f4 := (HX3.out.2 4 (by decide)).2; have HX3_c5 := (HX3.out.2 5 (by decide)).1; have HX3_f5 := (HX3.out.2 5 (by decide)).2; have HX3_c6 := (HX3.out.2 6 (by decide)).1; have HX3_f6 := (HX3.out.2 6 (by decide)).2; have HX3_c7 := (HX3.out.2 7 (by decide)).1; have HX3_f7 := (HX3.out.2 7 (by decide)).2; have HX3_c8 := (HX3.out.2 8 (by decide)).1; have HX3_f8 := (HX3.out.2 8 (by decide)).2; have HX3_c9 := (HX3.out.2 9 (by decide)).1; have HX3_f9 := (HX3.out.2 9 (by decide)).2; have HX3_c10 := (HX3.out.2 10 (by decide)).1; have HX3_f10 := (HX3.out.2 10 (by decide)).2; have HX3_c11 := (HX3.out.2 11 (by decide)).1; have HX3_f11 := (HX3.out.2 11 (by decide)).2; have HX3_z := HX3.out.1
  go_upto_region 4 with fail
  generalize hw4 : World.setCell _ _ _ = w4
  have HX4 := Lib.hid (show Ints w4 w.heap.size 12 no from by rw [← hw4]; exact HX3.out.set12 no)
  have HZ4 := Lib.hid (show Ints w4 (w.heap.size + 1) 12 (fun _ => 0) from by rw [← hw4]; exact HZ3.out.other12 _ no (by omega))
  have HF4 := Lib.hid (show Ints w4 (w.heap.size + 1 + 1) 2 (fun _ => 0) from by rw [← hw4]; exact HF3.out.other12 _ no (by omega))
  have HB4 := Lib.hid (show Below w.heap.size w w4 from by have := HB3.out; rw [← hw4]; exact bel)
  clear hw4 HX3 HZ3 HF3 HB3 HX3_r HX3_f0 HX3_f1 HX3_f2 HX3_f3 HX3_f4 HX3_f5 HX3_f6 HX3_f7 HX3_f8 HX3_f9 HX3_f10 HX3_f11
  clear HX3_c0 HX3_c1 HX3_c2 HX3_c3 HX3_c4 HX3_c5 HX3_c6 HX3_c7 HX3_c8 HX3_c9 HX3_c10 HX3_c11 HX3_z
  have HX4_c0 := (HX4.out.2 0 (by decide)).1; have HX4_c1 := (HX4.out.2 1 (by decide)).1; have HX4_c2 := (HX4.out.2 2 (by decide)).1; have HX4_c3 := (HX4.out.2 3 (by decide)).1; have HX4_c4 := (HX4.out.2 4 (by decide)).1; have HX4_c5 := (HX4.out.2 5 (by decide)).1; have HX4_c6 := (HX4.out.2 6 (by decide)).1; have HX4_c7 := (HX4.out.2 7 (by decide)).1; have HX4_c8 := (HX4.out.2 8 (by decide)).1; have HX4_c9 := (HX4.out.2 9 (by decide)).1; have HX4_c10 := (HX4.out.2 10 (by decide)).1; have HX4_c11 := (HX4.out.2 11 (by decide)).1; have HX4_z := HX4.out.1
  go_wp2_with fail
  refine (SS.out _).mono ?_; rintro e w5 ⟨rfl, hb⟩; have hz := hb.size; (try simp only [World.size_alloc, World.heap_drewN, World.size_drew, World.size_setCell] at hz)
  have HB5 := Lib.hid (show Below w.heap.size w w5 from by have := HB4.out; exact bel)
  have HX5 := Lib.hid (HX4.out.below hb)
  have HZ5 := Lib.hid (HZ4.out.below hb)
  have HF5 := Lib.hid (HF4.out.below hb)
  clear hb HX4 HZ4 HF4 HB4
  clear HX4_c0 HX4_c1 HX4_c2 HX4_c3 HX4_c4 HX4_c5 HX4_c6 HX4_c7 HX4_c8 HX4_c9 HX4_c10 HX4_c11 HX4_z
  have HX5_r := HX5.out.row12; have HX5_c0 := (HX5.out.2 0 (by decide)).1; have HX5_f0 := (HX5.out.2 0 (by decide)).2; have HX5_c1 := (HX5.out.2 1 (by decide)).1; have HX5_f1 := (HX5.out.2 1 (by decide)).2; have HX5_c2 := (HX5.out.2 2 (by decide)).1; have HX5_f2 := (HX5.out.2 2 (by decide)).2; have HX5_c3 := (HX5.out.2 3 (by decide)).1; have HX5_f3 := (HX5.out.2 3 (by decide)).2; have HX5_c4 := (HX5.out.2 4 (by decide)).1; have HX5_f4 := (HX5.out.2 4 (by decide)).2; have HX5_c5 := (HX5.out.2 5 (by decide)).1; have HX5_f5 := (HX5.out.2 5 (by decide)).2; have HX5_c6 := (HX5.out.2 6 (by decide)).1; have HX5_f6 := (HX5.out.2 6 (by decide)).2; have HX5_c7 := (HX5.out.2 7 (by decide)).1; have HX5_f7 := (HX5.out.2 7 (by decide)).2; have HX5_c8 := (HX5.out.2 8 (by decide)).1; have HX5_f8 := (HX5.out.2 8 (by decide)).2; have HX5_c9 := (HX5.out.2 9 (by decide)).1; have HX5_f9 := (HX5.out.2 9 (by decide)).2; have HX5_c10 := (HX5.out.2 10 (by decide)).1; have HX5_f10 := (HX5.out.2 10 (by decide)).2; have HX5_c11 := (HX5.out.2 11 (by decide)).1; have HX5_f11 := (HX5.out.2 11 (by decide)).2; have HX5_z := HX5.out.1
  go_upto_region 6 with fail
  generalize hw6 : World.setCell _ _ _ = w6
  have HX6 := Lib.hid (show Ints w6 w.heap.size 12 mi from by rw [← hw6]; exact HX5.out.set12 mi)
  have HZ6 := Lib.hid (show Ints w6 (w.heap.size + 1) 12 (fun _ => 0) from by rw [← hw6]; exact HZ5.out.other12 _ mi (by omega))
  have HF6 := Lib.hid (show Ints w6 (w.heap.size + 1 + 1) 2 (fun _ => 0) from by rw [← hw6]; exact HF5.out.other12 _ mi (by omega))
  have HB6 := Lib.hid (show Below w.heap.size w w6 from by have := HB5.out; rw [← hw6]; exact bel)
  clear hw6 HX5 HZ5 HF5 HB5 HX5_r HX5_f0 HX5_f1 HX5_f2 HX5_f3 HX5_f4 HX5_f5 HX5_f6 HX5_f7 HX5_f8 HX5_f9 HX5_f10 HX5_f11
  clear HX5_c0 HX5_c1 HX5_c2 HX5_c3 HX5_c4 HX5_c5 HX5_c6 HX5_c7 HX5_c8 HX5_c9 HX5_c10 HX5_c11 HX5_z
  have HX6_c0 := (HX6.out.2 0 (by decide)).1; have HX6_c1 := (HX6.out.2 1 (by decide)).1; have HX6_c2 := (HX6.out.2 2 (by decide)).1; have HX6_c3 := (HX6.out.2 3 (by decide)).1; have HX6_c4 := (HX6.out.2 4 (by decide)).1; have HX6_c5 := (HX6.out.2 5 (by decide)).1; have HX6_c6 := (HX6.out.2 6 (by decide)).1; have HX6_c7 := (HX6.out.2 7 (by decide)).1; have HX6_c8 := (HX6.out.2 8 (by decide)).1; have HX6_c9 := (HX6.out.2 9 (by decide)).1; have HX6_c10 := (HX6.out.2 10 (by decide)).1; have HX6_c11 := (HX6.out.2 11 (by decide)).1; have HX6_z := HX6.out.1
  go_wp2_with fail
  refine (LL.out _ (HL.out.below HB6.out)).mono ?_; rintro e w7 ⟨rfl, hb⟩; have hz := hb.size; (try simp only [World.size_alloc, World.heap_drewN, World.size_drew, World.size_setCell] at hz)
  have HB7 := Lib.hid (show Below w.heap.size w w7 from by have := HB6.out; exact bel)
  have HZ7 := Lib.hid (HZ6.out.below hb)
  have HF7 := Lib.hid (HF6.out.below hb)
  clear hb HX6 HZ6 HF6 HB6
  clear HX6_c0 HX6_c1 HX6_c2 HX6_c3 HX6_c4 HX6_c5 HX6_c6 HX6_c7 HX6_c8 HX6_c9 HX6_c10 HX6_c11 HX6_z
  have HZ7_r := HZ7.out.row12; have HZ7_c0 := (HZ7.out.2 0 (by decide)).1; have HZ7_f0 := (HZ7.out.2 0 (by decide)).2; have HZ7_c1 := (HZ7.out.2 1 (by decide)).1; have HZ7_f1 := (HZ7.out.2 1 (by decide)).2; have HZ7_c2 := (HZ7.out.2 2 (by decide)).1; have HZ7_f2 := (HZ7.out.2 2 (by decide)).2; have HZ7_c3 := (HZ7.out.2 3 (by decide)).1; have HZ7_f3 := (HZ7.out.2 3 (by decide)).2; have HZ7_c4 := (HZ7.out.2 4 (by decide)).1; have HZ7_f4 := (HZ7.out.2 4 (by decide)).2; have HZ7_c5 := (HZ7.out.2 5 (by decide)).1; have HZ7_f5 := (HZ7.out.2 5 (by decide)).2; have HZ7_c6 := (HZ7.out.2 6 (by decide)).1; have HZ7_f6 := (HZ7.out.2 6 (by decide)).2; have HZ7_c7 := (HZ7.out.2 7 (by decide)).1; have HZ7_f7 := (HZ7.out.2 7 (by decide)).2; have HZ7_c8 := (HZ7.out.2 8 (by decide)).1; have HZ7_f8 := (HZ7.out.2 8 (by decide)).2; have HZ7_c9 := (HZ7.out.2 9 (by decide)).1; have HZ7_f9 := (HZ7.out.2 9 (by decide)).2; have HZ7_c10 := (HZ7.out.2 10 (by decide)).1; have HZ7_f10 := (HZ7.out.2 10 (by decide)).2; have HZ7_c11 := (HZ7.out.2 11 (by decide)).1; have HZ7_f11 := (HZ7.out.2 11 (by decide)).2; have HZ7_z := HZ7.out.1
  obtain ⟨a0, b0⟩ := HF7.out.2 0 (by decide)
  obtain ⟨a1, b1⟩ := HF7.out.2 1 (by decide)
  have ar := HF7.out.row2
  have az := HF7.out.1
  have := HB7.out
  go_wp2
  generalize hwf : World.setCell _ _ _ = wf; have r1 : wf.rangeAt (w.heap.size + 1) 0 [.int .i64 ((st) 0), .int .i64 ((st) 1), .int .i64 ((st) 2), .int .i64 ((st) 3), .int .i64 ((st) 4), .int .i64 ((st) 5), .int .i64 ((st) 6), .int .i64 ((st) 7), .int .i64 ((st) 8), .int .i64 ((st) 9), .int .i64 ((st) 10), .int .i64 ((st) 11)] := (by rw [← hwf]; exact rng); have r2 : wf.rangeAt (w.heap.size + 1 + 1) 0 [.int .i64 (ou 0), .int .i64 (ou 1)] := (by rw [← hwf]; exact rng); have r3 : Below w.heap.size w wf := (by rw [← hwf]; exact bel); refine bodyPost_ret (ret_cell2_tmp Try.results11 (w.heap.size + 1) [.int .i64 ((st) 0), .int .i64 ((st) 1), .int .i64 ((st) 2), .int .i64 ((st) 3), .int .i64 ((st) 4), .int .i64 ((st) 5), .int .i64 ((st) 6), .int .i64 ((st) 7), .int .i64 ((st) 8), .int .i64 ((st) 9), .int .i64 ((st) 10), .int .i64 ((st) 11)] _ (w.heap.size + 1 + 1) [.int .i64 (ou 0), .int .i64 (ou 1)] _ rfl rfl r1 Try.underlying24 rfl (by kernel_rfl) r2 Try.underlying33 rfl (by kernel_rfl)) rfl ⟨rfl, r3⟩
set_option maxHeartbeats 4000000 in
theorem hStep_unfit (n : Int) (f : Nat → Int) (va : Value) (m : Nat) (l : Nat → Int) (w : World) (hf : Bd12 f) (hm : m ≤ 1000) (hl : Prs w va m l) (h : Vote.ok n f = true ∧ Gate.fits n m l = false) :
    Calls Try.prog 11 #[.int .i64 n, .agg #[.int .i64 (f 0), .int .i64 (f 1), .int .i64 (f 2), .int .i64 (f 3), .int .i64 (f 4), .int .i64 (f 5), .int .i64 (f 6), .int .i64 (f 7), .int .i64 (f 8), .int .i64 (f 9), .int .i64 (f 10), .int .i64 (f 11)], va] w fun e w' => e = .returned (.tuple #[.agg #[.int .i64 ((fun _ => (0 : Int)) 0), .int .i64 ((fun _ => (0 : Int)) 1), .int .i64 ((fun _ => (0 : Int)) 2), .int .i64 ((fun _ => (0 : Int)) 3), .int .i64 ((fun _ => (0 : Int)) 4), .int .i64 ((fun _ => (0 : Int)) 5), .int .i64 ((fun _ => (0 : Int)) 6), .int .i64 ((fun _ => (0 : Int)) 7), .int .i64 ((fun _ => (0 : Int)) 8), .int .i64 ((fun _ => (0 : Int)) 9), .int .i64 ((fun _ => (0 : Int)) 10), .int .i64 ((fun _ => (0 : Int)) 11)], .agg #[.int .i64 0, .int .i64 0], .int .i64 2]) ∧ Below w.heap.size w w' := by
  obtain ⟨p1, c1, rfl⟩ := hl.form
  obtain ⟨hok, hfit⟩ := h
  have ok1 := Vote.ok_tick (Vote.ok_iff.1 hok)
  have TT := Lib.hid (fun w => vTick_any n f w hf)
  rw [tickErr_yes hok] at TT
  have NN := Lib.hid (fun w hl => gNote_any n (Vote.tick n f) (.slice p1 m c1) m l w (ok_bd ok1) hm hl)
  rw [show Gate.wrong n (Vote.tick n f) m l = 2 by unfold Gate.wrong; rw [if_pos (Vote.ok_iff.2 ok1), hfit]; rfl] at NN
  have HL := Lib.hid hl
  generalize noted n (Vote.tick n f) m l = no at *
  generalize Vote.tick n f = ti at *
  clear hok hfit ok1 hl hf
  go_enter Try.func11, Try.ntmps11
  go_wp2_with fail
  have HX0 := Lib.hid (((Ints.box w f 24).alloc (.cells #[.int .i64 ((fun _ => (0 : Int)) 0), .int .i64 ((fun _ => (0 : Int)) 1), .int .i64 ((fun _ => (0 : Int)) 2), .int .i64 ((fun _ => (0 : Int)) 3), .int .i64 ((fun _ => (0 : Int)) 4), .int .i64 ((fun _ => (0 : Int)) 5), .int .i64 ((fun _ => (0 : Int)) 6), .int .i64 ((fun _ => (0 : Int)) 7), .int .i64 ((fun _ => (0 : Int)) 8), .int .i64 ((fun _ => (0 : Int)) 9), .int .i64 ((fun _ => (0 : Int)) 10), .int .i64 ((fun _ => (0 : Int)) 11)] 24)).alloc (.cells #[.int .i64 0, .int .i64 0] 33))
  have HZ0 := Lib.hid ((Ints.zeros (w.alloc (.cells #[.int .i64 (f 0), .int .i64 (f 1), .int .i64 (f 2), .int .i64 (f 3), .int .i64 (f 4), .int .i64 (f 5), .int .i64 (f 6), .int .i64 (f 7), .int .i64 (f 8), .int .i64 (f 9), .int .i64 (f 10), .int .i64 (f 11)] 24)) 24).alloc (.cells #[.int .i64 0, .int .i64 0] 33))
  have HF0 := Lib.hid (Ints.two ((w.alloc (.cells #[.int .i64 (f 0), .int .i64 (f 1), .int .i64 (f 2), .int .i64 (f 3), .int .i64 (f 4), .int .i64 (f 5), .int .i64 (f 6), .int .i64 (f 7), .int .i64 (f 8), .int .i64 (f 9), .int .i64 (f 10), .int .i64 (f 11)] 24)).alloc (.cells #[.int .i64 ((fun _ => (0 : Int)) 0), .int .i64 ((fun _ => (0 : Int)) 1), .int .i64 ((fun _ => (0 : Int)) 2), .int .i64 ((fun _ => (0 : Int)) 3), .int .i64 ((fun _ => (0 : Int)) 4), .int .i64 ((fun _ => (0 : Int)) 5), .int .i64 ((fun _ => (0 : Int)) 6), .int .i64 ((fun _ => (0 : Int)) 7), .int .i64 ((fun _ => (0 : Int)) 8), .int .i64 ((fun _ => (0 : Int)) 9), .int .i64 ((fun _ => (0 : Int)) 10), .int .i64 ((fun _ => (0 : Int)) 11)] 24)) 0 0 33 (fun _ => 0) rfl rfl)
  refine (TT.out _).mono ?_; rintro e w1 ⟨rfl, hb⟩; have hz := hb.size; (try simp only [World.size_alloc, World.heap_drewN, World.size_drew, World.size_setCell] at hz)
  have HB1 := Lib.hid (show Below w.heap.size w w1 from by exact bel)
  have HX1 := Lib.hid (HX0.out.below hb)
  have HZ1 := Lib.hid (HZ0.out.below hb)
  have HF1 := Lib.hid (HF0.out.below hb)
  simp only [World.size_alloc] at HX1 HZ1 HF1
  clear hb HX0 HZ0 HF0
  have HX1_r := HX1.out.row12; have HX1_c0 := (HX1.out.2 0 (by decide)).1; have HX1_f0 := (HX1.out.2 0 (by decide)).2; have HX1_c1 := (HX1.out.2 1 (by decide)).1; have HX1_f1 := (HX1.out.2 1 (by decide)).2; have HX1_c2 := (HX1.out.2 2 (by decide)).1; have HX1_f2 := (HX1.out.2 2 (by decide)).2; have HX1_c3 := (HX1.out.2 3 (by decide)).1; have HX1_f3 := (HX1.out.2 3 (by decide)).2; have HX1_c4 := (HX1.out.2 4 (by decide)).1; have HX1_f4 := (HX1.out.2 4 (by decide)).2; have HX1_c5 := (HX1.out.2 5 (by decide)).1; have HX1_f5 := (HX1.out.2 5 (by decide)).2; have HX1_c6 := (HX1.out.2 6 (by decide)).1; have HX1_f6 := (HX1.out.2 6 (by decide)).2; have HX1_c7 := (HX1.out.2 7 (by decide)).1; have HX1_f7 := (HX1.out.2 7 (by decide)).2; have HX1_c8 := (HX1.out.2 8 (by decide)).1; have HX1_f8 := (HX1.out.2 8 (by decide)).2; have HX1_c9 := (HX1.out.2 9 (by decide)).1; have HX1_f9 := (HX1.out.2 9 (by decide)).2; have HX1_c10 := (HX1.out.2 10 (by decide)).1; have HX1_f10 := (HX1.out.2 10 (by decide)).2; have HX1_c11 := (HX1.out.2 11 (by decide)).1; have HX1_f11 := (HX1.out.2 11 (by decide)).2; have HX1_z := HX1.out.1
  go_upto_region 2 with fail
  generalize hw2 : World.setCell _ _ _ = w2
  have HX2 := Lib.hid (show Ints w2 w.heap.size 12 ti from by rw [← hw2]; exact HX1.out.set12 ti)
  have HZ2 := Lib.hid (show Ints w2 (w.heap.size + 1) 12 (fun _ => 0) from by rw [← hw2]; exact HZ1.out.other12 _ ti (by omega))
  have HF2 := Lib.hid (show Ints w2 (w.heap.size + 1 + 1) 2 (fun _ => 0) from by rw [← hw2]; exact HF1.out.other12 _ ti (by omega))
  have HB2 := Lib.hid (show Below w.heap.size w w2 from by have := HB1.out; rw [← hw2]; exact bel)
  clear hw2 HX1 HZ1 HF1 HB1 HX1_r HX1_f0 HX1_f1 HX1_f2 HX1_f3 HX1_f4 HX1_f5 HX1_f6 HX1_f7 HX1_f8 HX1_f9 HX1_f10 HX1_f11
  clear HX1_c0 HX1_c1 HX1_c2 HX1_c3 HX1_c4 HX1_c5 HX1_c6 HX1_c7 HX1_c8 HX1_c9 HX1_c10 HX1_c11 HX1_z
  have HX2_c0 := (HX2.out.2 0 (by decide)).1; have HX2_c1 := (HX2.out.2 1 (by decide)).1; have HX2_c2 := (HX2.out.2 2 (by decide)).1; have HX2_c3 := (HX2.out.2 3 (by decide)).1; have HX2_c4 := (HX2.out.2 4 (by decide)).1; have HX2_c5 := (HX2.out.2 5 (by decide)).1; have HX2_c6 := (HX2.out.2 6 (by decide)).1; have HX2_c7 := (HX2.out.2 7 (by decide)).1; have HX2_c8 := (HX2.out.2 8 (by decide)).1; have HX2_c9 := (HX2.out.2 9 (by decide)).1; have HX2_c10 := (HX2.out.2 10 (by decide)).1; have HX2_c11 := (HX2.out.2 11 (by decide)).1; have HX2_z := HX2.out.1
  go_wp2_with fail
  refine (NN.out _ (HL.out.below HB2.out)).mono ?_; rintro e w3 ⟨rfl, hb⟩; have hz := hb.size; (try simp only [World.size_alloc, World.heap_drewN, World.size_drew, World.size_setCell] at hz)
  have HB3 := Lib.hid (show Below w.heap.size w w3 from by have := HB2.out; exact bel)
  have HX3 := Lib.hid (HX2.out.below hb)
  have HZ3 := Lib.hid (HZ2.out.below hb)
  have HF3 := Lib.hid (HF2.out.below hb)
  clear hb HX2 HZ2 HF2 HB2
  clear HX2_c0 HX2_c1 HX2_c2 HX2_c3 HX2_c4 HX2_c5 HX2_c6 HX2_c7 HX2_c8 HX2_c9 HX2_c10 HX2_c11 HX2_z
  have HX3_r := HX3.out.row12; have HX3_c0 := (HX3.out.2 0 (by decide)).1; have HX3_f0 := (HX3.out.2 0 (by decide)).2; have HX3_c1 := (HX3.out.2 1 (by decide)).1; have HX3_f1 := (HX3.out.2 1 (by decide)).2; have HX3_c2 := (HX3.out.2 2 (by decide)).1; have HX3_f2 := (HX3.out.2 2 (by decide)).2; have HX3_c3 := (HX3.out.2 3 (by decide)).1; have HX3_f3 := (HX3.out.2 3 (by decide)).2; have HX3_c4 := (HX3.out.2 4 (by decide)).1; have HX3_f4 := (HX3.out.2 4 (by decide)).2; have HX3_c5 := (HX3.out.2 5 (by decide)).1; have HX3_f5 := (HX3.out.2 5 (by decide)).2; have HX3_c6 := (HX3.out.2 6 (by decide)).1; have HX3_f6 := (HX3.out.2 6 (by decide)).2; have HX3_c7 := (HX3.out.2 7 (by decide)).1; have HX3_f7 := (HX3.out.2 7 (by decide)).2; have HX3_c8 := (HX3.out.2 8 (by decide)).1; have HX3_f8 := (HX3.out.2 8 (by decide)).2; have HX3_c9 := (HX3.out.2 9 (by decide)).1; have HX3_f9 := (HX3.out.2 9 (by decide)).2; have HX3_c10 := (HX3.out.2 10 (by decide)).1; have HX3_f10 := (HX3.out.2 10 (by decide)).2; have HX3_c11 := (HX3.out.2 11 (by decide)).1; have HX3_f11 := (HX3.out.2 11 (by decide)).2; have HX3_z := HX3.out.1
  go_upto_region 4 with fail
  generalize hw4 : World.setCell _ _ _ = w4
  have HX4 := Lib.hid (show Ints w4 w.heap.size 12 no from by rw [← hw4]; exact HX3.out.set12 no)
  have HZ4 := Lib.hid (show Ints w4 (w.heap.size + 1) 12 (fun _ => 0) from by rw [← hw4]; exact HZ3.out.other12 _ no (by omega))
  have HF4 := Lib.hid (show Ints w4 (w.heap.size + 1 + 1) 2 (fun _ => 0) from by rw [← hw4]; exact HF3.out.other12 _ no (by omega))
  have HB4 := Lib.hid (show Below w.heap.size w w4 from by have := HB3.out; rw [← hw4]; exact bel)
  clear hw4 HX3 HZ3 HF3 HB3 HX3_r HX3_f0 HX3_f1 HX3_f2 HX3_f3 HX3_f4 HX3_f5 HX3_f6 HX3_f7 HX3_f8 HX3_f9 HX3_f10 HX3_f11
  clear HX3_c0 HX3_c1 HX3_c2 HX3_c3 HX3_c4 HX3_c5 HX3_c6 HX3_c7 HX3_c8 HX3_c9 HX3_c10 HX3_c11 HX3_z
  have HZ4_r := HZ4.out.row12; have HZ4_c0 := (HZ4.out.2 0 (by decide)).1; have HZ4_f0 := (HZ4.out.2 0 (by decide)).2; have HZ4_c1 := (HZ4.out.2 1 (by decide)).1; have HZ4_f1 := (HZ4.out.2 1 (by decide)).2; have HZ4_c2 := (HZ4.out.2 2 (by decide)).1; have HZ4_f2 := (HZ4.out.2 2 (by decide)).2; have HZ4_c3 := (HZ4.out.2 3 (by decide)).1; have HZ4_f3 := (HZ4.out.2 3 (by decide)).2; have HZ4_c4 := (HZ4.out.2 4 (by decide)).1; have HZ4_f4 := (HZ4.out.2 4 (by decide)).2; have HZ4_c5 := (HZ4.out.2 5 (by decide)).1; have HZ4_f5 := (HZ4.out.2 5 (by decide)).2; have HZ4_c6 := (HZ4.out.2 6 (by decide)).1; have HZ4_f6 := (HZ4.out.2 6 (by decide)).2; have HZ4_c7 := (HZ4.out.2 7 (by decide)).1; have HZ4_f7 := (HZ4.out.2 7 (by decide)).2; have HZ4_c8 := (HZ4.out.2 8 (by decide)).1; have HZ4_f8 := (HZ4.out.2 8 (by decide)).2; have HZ4_c9 := (HZ4.out.2 9 (by decide)).1; have HZ4_f9 := (HZ4.out.2 9 (by decide)).2; have HZ4_c10 := (HZ4.out.2 10 (by decide)).1; have HZ4_f10 := (HZ4.out.2 10 (by decide)).2; have HZ4_c11 := (HZ4.out.2 11 (by decide)).1; have HZ4_f11 := (HZ4.out.2 11 (by decide)).2; have HZ4_z := HZ4.out.1
  obtain ⟨a0, b0⟩ := HF4.out.2 0 (by decide)
  obtain ⟨a1, b1⟩ := HF4.out.2 1 (by decide)
  have ar := HF4.out.row2
  have az := HF4.out.1
  have := HB4.out
  go_wp2
  generalize hwf : World.setCell _ _ _ = wf; have r1 : wf.rangeAt (w.heap.size + 1) 0 [.int .i64 ((fun _ => 0) 0), .int .i64 ((fun _ => 0) 1), .int .i64 ((fun _ => 0) 2), .int .i64 ((fun _ => 0) 3), .int .i64 ((fun _ => 0) 4), .int .i64 ((fun _ => 0) 5), .int .i64 ((fun _ => 0) 6), .int .i64 ((fun _ => 0) 7), .int .i64 ((fun _ => 0) 8), .int .i64 ((fun _ => 0) 9), .int .i64 ((fun _ => 0) 10), .int .i64 ((fun _ => 0) 11)] := (by rw [← hwf]; exact rng); have r2 : wf.rangeAt (w.heap.size + 1 + 1) 0 [.int .i64 (0), .int .i64 (0)] := (by rw [← hwf]; exact rng); have r3 : Below w.heap.size w wf := (by rw [← hwf]; exact bel); refine bodyPost_ret (ret_cell2_tmp Try.results11 (w.heap.size + 1) [.int .i64 ((fun _ => 0) 0), .int .i64 ((fun _ => 0) 1), .int .i64 ((fun _ => 0) 2), .int .i64 ((fun _ => 0) 3), .int .i64 ((fun _ => 0) 4), .int .i64 ((fun _ => 0) 5), .int .i64 ((fun _ => 0) 6), .int .i64 ((fun _ => 0) 7), .int .i64 ((fun _ => 0) 8), .int .i64 ((fun _ => 0) 9), .int .i64 ((fun _ => 0) 10), .int .i64 ((fun _ => 0) 11)] _ (w.heap.size + 1 + 1) [.int .i64 (0), .int .i64 (0)] _ rfl rfl r1 Try.underlying24 rfl (by kernel_rfl) r2 Try.underlying33 rfl (by kernel_rfl)) rfl ⟨rfl, r3⟩
set_option maxHeartbeats 4000000 in
theorem hStep_wrong (n : Int) (f : Nat → Int) (va : Value) (m : Nat) (l : Nat → Int) (w : World) (hf : Bd12 f) (hm : m ≤ 1000) (hl : Prs w va m l) (h : Vote.ok n f = false) :
    Calls Try.prog 11 #[.int .i64 n, .agg #[.int .i64 (f 0), .int .i64 (f 1), .int .i64 (f 2), .int .i64 (f 3), .int .i64 (f 4), .int .i64 (f 5), .int .i64 (f 6), .int .i64 (f 7), .int .i64 (f 8), .int .i64 (f 9), .int .i64 (f 10), .int .i64 (f 11)], va] w fun e w' => e = .returned (.tuple #[.agg #[.int .i64 ((fun _ => (0 : Int)) 0), .int .i64 ((fun _ => (0 : Int)) 1), .int .i64 ((fun _ => (0 : Int)) 2), .int .i64 ((fun _ => (0 : Int)) 3), .int .i64 ((fun _ => (0 : Int)) 4), .int .i64 ((fun _ => (0 : Int)) 5), .int .i64 ((fun _ => (0 : Int)) 6), .int .i64 ((fun _ => (0 : Int)) 7), .int .i64 ((fun _ => (0 : Int)) 8), .int .i64 ((fun _ => (0 : Int)) 9), .int .i64 ((fun _ => (0 : Int)) 10), .int .i64 ((fun _ => (0 : Int)) 11)], .agg #[.int .i64 0, .int .i64 0], .int .i64 1]) ∧ Below w.heap.size w w' := by
  obtain ⟨p1, c1, rfl⟩ := hl.form
  have TT := Lib.hid (fun w => vTick_any n f w hf)
  rw [tickErr_no h] at TT
  generalize Vote.tick n f = ti at *
  clear h hl hf
  go_enter Try.func11, Try.ntmps11
  go_wp2_with fail
  have HX0 := Lib.hid (((Ints.box w f 24).alloc (.cells #[.int .i64 ((fun _ => (0 : Int)) 0), .int .i64 ((fun _ => (0 : Int)) 1), .int .i64 ((fun _ => (0 : Int)) 2), .int .i64 ((fun _ => (0 : Int)) 3), .int .i64 ((fun _ => (0 : Int)) 4), .int .i64 ((fun _ => (0 : Int)) 5), .int .i64 ((fun _ => (0 : Int)) 6), .int .i64 ((fun _ => (0 : Int)) 7), .int .i64 ((fun _ => (0 : Int)) 8), .int .i64 ((fun _ => (0 : Int)) 9), .int .i64 ((fun _ => (0 : Int)) 10), .int .i64 ((fun _ => (0 : Int)) 11)] 24)).alloc (.cells #[.int .i64 0, .int .i64 0] 33))
  have HZ0 := Lib.hid ((Ints.zeros (w.alloc (.cells #[.int .i64 (f 0), .int .i64 (f 1), .int .i64 (f 2), .int .i64 (f 3), .int .i64 (f 4), .int .i64 (f 5), .int .i64 (f 6), .int .i64 (f 7), .int .i64 (f 8), .int .i64 (f 9), .int .i64 (f 10), .int .i64 (f 11)] 24)) 24).alloc (.cells #[.int .i64 0, .int .i64 0] 33))
  have HF0 := Lib.hid (Ints.two ((w.alloc (.cells #[.int .i64 (f 0), .int .i64 (f 1), .int .i64 (f 2), .int .i64 (f 3), .int .i64 (f 4), .int .i64 (f 5), .int .i64 (f 6), .int .i64 (f 7), .int .i64 (f 8), .int .i64 (f 9), .int .i64 (f 10), .int .i64 (f 11)] 24)).alloc (.cells #[.int .i64 ((fun _ => (0 : Int)) 0), .int .i64 ((fun _ => (0 : Int)) 1), .int .i64 ((fun _ => (0 : Int)) 2), .int .i64 ((fun _ => (0 : Int)) 3), .int .i64 ((fun _ => (0 : Int)) 4), .int .i64 ((fun _ => (0 : Int)) 5), .int .i64 ((fun _ => (0 : Int)) 6), .int .i64 ((fun _ => (0 : Int)) 7), .int .i64 ((fun _ => (0 : Int)) 8), .int .i64 ((fun _ => (0 : Int)) 9), .int .i64 ((fun _ => (0 : Int)) 10), .int .i64 ((fun _ => (0 : Int)) 11)] 24)) 0 0 33 (fun _ => 0) rfl rfl)
  refine (TT.out _).mono ?_; rintro e w1 ⟨rfl, hb⟩; have hz := hb.size; (try simp only [World.size_alloc, World.heap_drewN, World.size_drew, World.size_setCell] at hz)
  have HB1 := Lib.hid (show Below w.heap.size w w1 from by exact bel)
  have HX1 := Lib.hid (HX0.out.below hb)
  have HZ1 := Lib.hid (HZ0.out.below hb)
  have HF1 := Lib.hid (HF0.out.below hb)
  simp only [World.size_alloc] at HX1 HZ1 HF1
  clear hb HX0 HZ0 HF0
  have HX1_r := HX1.out.row12; have HX1_c0 := (HX1.out.2 0 (by decide)).1; have HX1_f0 := (HX1.out.2 0 (by decide)).2; have HX1_c1 := (HX1.out.2 1 (by decide)).1; have HX1_f1 := (HX1.out.2 1 (by decide)).2; have HX1_c2 := (HX1.out.2 2 (by decide)).1; have HX1_f2 := (HX1.out.2 2 (by decide)).2; have HX1_c3 := (HX1.out.2 3 (by decide)).1; have HX1_f3 := (HX1.out.2 3 (by decide)).2; have HX1_c4 := (HX1.out.2 4 (by decide)).1; have HX1_f4 := (HX1.out.2 4 (by decide)).2; have HX1_c5 := (HX1.out.2 5 (by decide)).1; have HX1_f5 := (HX1.out.2 5 (by decide)).2; have HX1_c6 := (HX1.out.2 6 (by decide)).1; have HX1_f6 := (HX1.out.2 6 (by decide)).2; have HX1_c7 := (HX1.out.2 7 (by decide)).1; have HX1_f7 := (HX1.out.2 7 (by decide)).2; have HX1_c8 := (HX1.out.2 8 (by decide)).1; have HX1_f8 := (HX1.out.2 8 (by decide)).2; have HX1_c9 := (HX1.out.2 9 (by decide)).1; have HX1_f9 := (HX1.out.2 9 (by decide)).2; have HX1_c10 := (HX1.out.2 10 (by decide)).1; have HX1_f10 := (HX1.out.2 10 (by decide)).2; have HX1_c11 := (HX1.out.2 11 (by decide)).1; have HX1_f11 := (HX1.out.2 11 (by decide)).2; have HX1_z := HX1.out.1
  go_upto_region 2 with fail
  generalize hw2 : World.setCell _ _ _ = w2
  have HX2 := Lib.hid (show Ints w2 w.heap.size 12 ti from by rw [← hw2]; exact HX1.out.set12 ti)
  have HZ2 := Lib.hid (show Ints w2 (w.heap.size + 1) 12 (fun _ => 0) from by rw [← hw2]; exact HZ1.out.other12 _ ti (by omega))
  have HF2 := Lib.hid (show Ints w2 (w.heap.size + 1 + 1) 2 (fun _ => 0) from by rw [← hw2]; exact HF1.out.other12 _ ti (by omega))
  have HB2 := Lib.hid (show Below w.heap.size w w2 from by have := HB1.out; rw [← hw2]; exact bel)
  clear hw2 HX1 HZ1 HF1 HB1 HX1_r HX1_f0 HX1_f1 HX1_f2 HX1_f3 HX1_f4 HX1_f5 HX1_f6 HX1_f7 HX1_f8 HX1_f9 HX1_f10 HX1_f11
  clear HX1_c0 HX1_c1 HX1_c2 HX1_c3 HX1_c4 HX1_c5 HX1_c6 HX1_c7 HX1_c8 HX1_c9 HX1_c10 HX1_c11 HX1_z
  have HZ2_r := HZ2.out.row12; have HZ2_c0 := (HZ2.out.2 0 (by decide)).1; have HZ2_f0 := (HZ2.out.2 0 (by decide)).2; have HZ2_c1 := (HZ2.out.2 1 (by decide)).1; have HZ2_f1 := (HZ2.out.2 1 (by decide)).2; have HZ2_c2 := (HZ2.out.2 2 (by decide)).1; have HZ2_f2 := (HZ2.out.2 2 (by decide)).2; have HZ2_c3 := (HZ2.out.2 3 (by decide)).1; have HZ2_f3 := (HZ2.out.2 3 (by decide)).2; have HZ2_c4 := (HZ2.out.2 4 (by decide)).1; have HZ2_f4 := (HZ2.out.2 4 (by decide)).2; have HZ2_c5 := (HZ2.out.2 5 (by decide)).1; have HZ2_f5 := (HZ2.out.2 5 (by decide)).2; have HZ2_c6 := (HZ2.out.2 6 (by decide)).1; have HZ2_f6 := (HZ2.out.2 6 (by decide)).2; have HZ2_c7 := (HZ2.out.2 7 (by decide)).1; have HZ2_f7 := (HZ2.out.2 7 (by decide)).2; have HZ2_c8 := (HZ2.out.2 8 (by decide)).1; have HZ2_f8 := (HZ2.out.2 8 (by decide)).2; have HZ2_c9 := (HZ2.out.2 9 (by decide)).1; have HZ2_f9 := (HZ2.out.2 9 (by decide)).2; have HZ2_c10 := (HZ2.out.2 10 (by decide)).1; have HZ2_f10 := (HZ2.out.2 10 (by decide)).2; have HZ2_c11 := (HZ2.out.2 11 (by decide)).1; have HZ2_f11 := (HZ2.out.2 11 (by decide)).2; have HZ2_z := HZ2.out.1
  obtain ⟨a0, b0⟩ := HF2.out.2 0 (by decide)
  obtain ⟨a1, b1⟩ := HF2.out.2 1 (by decide)
  have ar := HF2.out.row2
  have az := HF2.out.1
  have := HB2.out
  go_wp2
  generalize hwf : World.setCell _ _ _ = wf; have r1 : wf.rangeAt (w.heap.size + 1) 0 [.int .i64 ((fun _ => 0) 0), .int .i64 ((fun _ => 0) 1), .int .i64 ((fun _ => 0) 2), .int .i64 ((fun _ => 0) 3), .int .i64 ((fun _ => 0) 4), .int .i64 ((fun _ => 0) 5), .int .i64 ((fun _ => 0) 6), .int .i64 ((fun _ => 0) 7), .int .i64 ((fun _ => 0) 8), .int .i64 ((fun _ => 0) 9), .int .i64 ((fun _ => 0) 10), .int .i64 ((fun _ => 0) 11)] := (by rw [← hwf]; exact rng); have r2 : wf.rangeAt (w.heap.size + 1 + 1) 0 [.int .i64 (0), .int .i64 (0)] := (by rw [← hwf]; exact rng); have r3 : Below w.heap.size w wf := (by rw [← hwf]; exact bel); refine bodyPost_ret (ret_cell2_tmp Try.results11 (w.heap.size + 1) [.int .i64 ((fun _ => 0) 0), .int .i64 ((fun _ => 0) 1), .int .i64 ((fun _ => 0) 2), .int .i64 ((fun _ => 0) 3), .int .i64 ((fun _ => 0) 4), .int .i64 ((fun _ => 0) 5), .int .i64 ((fun _ => 0) 6), .int .i64 ((fun _ => 0) 7), .int .i64 ((fun _ => 0) 8), .int .i64 ((fun _ => 0) 9), .int .i64 ((fun _ => 0) 10), .int .i64 ((fun _ => 0) 11)] _ (w.heap.size + 1 + 1) [.int .i64 (0), .int .i64 (0)] _ rfl rfl r1 Try.underlying24 rfl (by kernel_rfl) r2 Try.underlying33 rfl (by kernel_rfl)) rfl ⟨rfl, r3⟩
theorem cHStep : CHStep := by
  intro n f va m l w _ hf hm hl
  by_cases h : Gate.wrong n f m l = 0
  · rw [stepH_yes h, stepF_yes h, h]
    exact hStep_yes n f va m l w hf hm hl h
  · simp only [stepH_no h, stepF_no h]
    by_cases hok : Vote.ok n f = true
    · have hfit : Gate.fits n m l = false := by
        cases q : Gate.fits n m l
        · rfl
        · exfalso; apply h; unfold Gate.wrong; rw [if_pos hok, if_pos q]
      rw [show Gate.wrong n f m l = 2 by unfold Gate.wrong; rw [if_pos hok, hfit]; rfl]
      exact hStep_unfit n f va m l w hf hm hl ⟨hok, hfit⟩
    · have hok := Bool.eq_false_iff.2 hok
      rw [show Gate.wrong n f m l = 1 by unfold Gate.wrong; rw [hok]; rfl]
      exact hStep_wrong n f va m l w hf hm hl hok
end Go.Proofs.Ytkdmmomfolhfbaa
