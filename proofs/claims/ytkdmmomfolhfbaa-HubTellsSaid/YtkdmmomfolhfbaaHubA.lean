
import Derived.Test.YtkdmmomfolhfbaaRows
import Derived.Test.YtkdmmomfolhfbaaGateG
import Derived.Test.YtkdmmomfolhfbaaPure
namespace Go.Proofs.Ytkdmmomfolhfbaa
set_option linter.unusedVariables false
set_option linter.unusedSimpArgs false
open Go.ChangeShapes Go.WideShapes Go.RowKit

/-- Of Step: nothing beside an error. -/
def stepH (n : Int) (f : Nat → Int) (m : Nat) (l : Nat → Int) (j : Nat) : Int := if Gate.wrong n f m l = 0 then Hub.step n f l m j else 0
def stepF (n : Int) (f : Nat → Int) (m : Nat) (l : Nat → Int) (i : Nat) : Int := if Gate.wrong n f m l = 0 then Hub.out n f l m i else 0
theorem stepH_yes {n : Int} {f : Nat → Int} {m : Nat} {l : Nat → Int} (h : Gate.wrong n f m l = 0) : stepH n f m l = Hub.step n f l m := funext fun _ => if_pos h
theorem stepF_yes {n : Int} {f : Nat → Int} {m : Nat} {l : Nat → Int} (h : Gate.wrong n f m l = 0) : stepF n f m l = Hub.out n f l m := funext fun _ => if_pos h
theorem stepH_no {n : Int} {f : Nat → Int} {m : Nat} {l : Nat → Int} (h : ¬ Gate.wrong n f m l = 0) (j : Nat) : stepH n f m l j = 0 := if_neg h
theorem stepF_no {n : Int} {f : Nat → Int} {m : Nat} {l : Nat → Int} (h : ¬ Gate.wrong n f m l = 0) (j : Nat) : stepF n f m l j = 0 := if_neg h
set_option maxHeartbeats 4000000 in
theorem refHStep_yes (n : Int) (f : Nat → Int) (va : Value) (m : Nat) (l : Nat → Int) (w : World) (hm : m ≤ maxLen) (hl : Prs w va m l) (h : Gate.wrong n f m l = 0) :
    Calls Try.prog 12 #[.int .i64 n, .agg #[.int .i64 (f 0), .int .i64 (f 1), .int .i64 (f 2), .int .i64 (f 3), .int .i64 (f 4), .int .i64 (f 5), .int .i64 (f 6), .int .i64 (f 7), .int .i64 (f 8), .int .i64 (f 9), .int .i64 (f 10), .int .i64 (f 11)], va] w fun e w' => e = .returned (.tuple #[.agg #[.int .i64 (Hub.step n f l m 0), .int .i64 (Hub.step n f l m 1), .int .i64 (Hub.step n f l m 2), .int .i64 (Hub.step n f l m 3), .int .i64 (Hub.step n f l m 4), .int .i64 (Hub.step n f l m 5), .int .i64 (Hub.step n f l m 6), .int .i64 (Hub.step n f l m 7), .int .i64 (Hub.step n f l m 8), .int .i64 (Hub.step n f l m 9), .int .i64 (Hub.step n f l m 10), .int .i64 (Hub.step n f l m 11)], .agg #[.int .i64 (Hub.out n f l m 0), .int .i64 (Hub.out n f l m 1)], .int .i64 0]) ∧ Below w.heap.size w w' := by
  obtain ⟨hok, hfit⟩ := Gate.wrong_of h
  obtain ⟨p1, c1, rfl⟩ := hl.form
  have ok1 := Vote.ok_tick hok
  have ok2 := Hub.ok_noted (l := l) hok
  have ok3 := Hub.ok_mid (l := l) hok
  have RR := Lib.hid (fun w => refVRight_any n f w)
  rw [Vote.ok_iff.2 hok] at RR
  have FF := Lib.hid (fun w hl => refGFits_any n (.slice p1 m c1) m l w hm hl)
  rw [Gate.fits_iff.2 hfit] at FF
  have TT := Lib.hid (fun w => refVTick_any n f w)
  have NN := Lib.hid (fun w hl => refGNote_any n (Vote.tick n f) (.slice p1 m c1) m l w hm hl)
  rw [show noted n (Vote.tick n f) m l = Gate.note n (Vote.tick n f) l from funext fun j => noted_yes (Gate.wrong_zero ok1 hfit) j] at NN
  have SS := Lib.hid (fun w => refGSettle_any n (Gate.note n (Vote.tick n f) l) w)
  rw [show Gate.settle n (Gate.note n (Vote.tick n f) l) = Hub.mid n f l from rfl] at SS
  have LL := Lib.hid (fun w hl => refGRelay_any n (Hub.mid n f l) (.slice p1 m c1) m l w hm hl)
  have w3 := Gate.wrong_zero ok3 hfit
  rw [relayH_yes w3, relayF_yes w3, w3, show Gate.relay n (Hub.mid n f l) l m = Hub.step n f l m from rfl, show Gate.relayed n (Hub.mid n f l) l m = Hub.out n f l m from rfl] at LL
  have HL := Lib.hid hl
  generalize Hub.step n f l m = st at *
  generalize Hub.out n f l m = ou at *
  generalize Hub.mid n f l = mi at *
  generalize Gate.note n (Vote.tick n f) l = no at *
  generalize Gate.wrong n (Vote.tick n f) m l = e2 at *
  generalize Vote.tickErr n no = e3 at *
  generalize Vote.tickErr n f = e1 at *
  generalize Vote.tick n f = ti at *
  clear hok hfit ok1 ok2 ok3 w3 hl h
  go_enter Try.func12, Try.ntmps12
  go_wp2_with fail
  have HX0 := Lib.hid (((Ints.box w f 24).alloc (.cells #[.int .i64 ((fun _ => (0 : Int)) 0), .int .i64 ((fun _ => (0 : Int)) 1), .int .i64 ((fun _ => (0 : Int)) 2), .int .i64 ((fun _ => (0 : Int)) 3), .int .i64 ((fun _ => (0 : Int)) 4), .int .i64 ((fun _ => (0 : Int)) 5), .int .i64 ((fun _ => (0 : Int)) 6), .int .i64 ((fun _ => (0 : Int)) 7), .int .i64 ((fun _ => (0 : Int)) 8), .int .i64 ((fun _ => (0 : Int)) 9), .int .i64 ((fun _ => (0 : Int)) 10), .int .i64 ((fun _ => (0 : Int)) 11)] 24)).alloc (.cells #[.int .i64 0, .int .i64 0] 33))
  have HZ0 := Lib.hid ((Ints.zeros (w.alloc (.cells #[.int .i64 (f 0), .int .i64 (f 1), .int .i64 (f 2), .int .i64 (f 3), .int .i64 (f 4), .int .i64 (f 5), .int .i64 (f 6), .int .i64 (f 7), .int .i64 (f 8), .int .i64 (f 9), .int .i64 (f 10), .int .i64 (f 11)] 24)) 24).alloc (.cells #[.int .i64 0, .int .i64 0] 33))
  have HF0 := Lib.hid (Ints.two ((w.alloc (.cells #[.int .i64 (f 0), .int .i64 (f 1), .int .i64 (f 2), .int .i64 (f 3), .int .i64 (f 4), .int .i64 (f 5), .int .i64 (f 6), .int .i64 (f 7), .int .i64 (f 8), .int .i64 (f 9), .int .i64 (f 10), .int .i64 (f 11)] 24)).alloc (.cells #[.int .i64 ((fun _ => (0 : Int)) 0), .int .i64 ((fun _ => (0 : Int)) 1), .int .i64 ((fun _ => (0 : Int)) 2), .int .i64 ((fun _ => (0 : Int)) 3), .int .i64 ((fun _ => (0 : Int)) 4), .int .i64 ((fun _ => (0 : Int)) 5), .int .i64 ((fun _ => (0 : Int)) 6), .int .i64 ((fun _ => (0 : Int)) 7), .int .i64 ((fun _ => (0 : Int)) 8), .int .i64 ((fun _ => (0 : Int)) 9), .int .i64 ((fun _ => (0 : Int)) 10), .int .i64 ((fun _ => (0 : Int)) 11)] 24)) 0 0 33 (fun _ => 0) rfl rfl)
  refine (RR.out _).mono ?_; rintro e w1 ⟨rfl, hb⟩; have hz := hb.size; (try simp only [World.size_alloc, World.heap_drewN, World.size_drew, World.size_setCell] at hz)
  have HB1 := Lib.hid (show Below w.heap.size w w1 from bel)
  have HX1 := Lib.hid (HX0.out.below hb)
  have HZ1 := Lib.hid (HZ0.out.below hb)
  have HF1 := Lib.hid (HF0.out.below hb)
  simp only [World.size_alloc] at HX1 HZ1 HF1
  clear hb HX0 HZ0 HF0
  go_wp2_with fail
  refine (FF.out _ (HL.out.below HB1.out)).mono ?_; rintro e w2 ⟨rfl, hb⟩; have hz := hb.size; (try simp only [World.size_alloc, World.heap_drewN, World.size_drew, World.size_setCell] at hz)
  have HB2 := Lib.hid (show Below w.heap.size w w2 from by have := HB1.out; exact bel)
  have HX2 := Lib.hid (HX1.out.below hb)
  have HZ2 := Lib.hid (HZ1.out.below hb)
  have HF2 := Lib.hid (HF1.out.below hb)
  clear hb HX1 HZ1 HF1 HB1
  have HX2_c0 := (HX2.out.2 0 (by decide)).1; have HX2_c1 := (HX2.out.2 1 (by decide)).1; have HX2_c2 := (HX2.out.2 2 (by decide)).1; have HX2_c3 := (HX2.out.2 3 (by decide)).1; have HX2_c4 := (HX2.out.2 4 (by decide)).1; have HX2_c5 := (HX2.out.2 5 (by decide)).1; have HX2_c6 := (HX2.out.2 6 (by decide)).1; have HX2_c7 := (HX2.out.2 7 (by decide)).1; have HX2_c8 := (HX2.out.2 8 (by decide)).1; have HX2_c9 := (HX2.out.2 9 (by decide)).1; have HX2_c10 := (HX2.out.2 10 (by decide)).1; have HX2_c11 := (HX2.out.2 11 (by decide)).1; have HX2_z := HX2.out.1
  go_wp2_with fail
  refine (TT.out _).mono ?_; rintro e w3 ⟨rfl, hb⟩; have hz := hb.size; (try simp only [World.size_alloc, World.heap_drewN, World.size_drew, World.size_setCell] at hz)
  have HB3 := Lib.hid (show Below w.heap.size w w3 from by have := HB2.out; exact bel)
  have HX3 := Lib.hid (HX2.out.below hb)
  have HZ3 := Lib.hid (HZ2.out.below hb)
  have HF3 := Lib.hid (HF2.out.below hb)
  clear hb HX2 HZ2 HF2 HB2
  clear HX2_c0 HX2_c1 HX2_c2 HX2_c3 HX2_c4 HX2_c5 HX2_c6 HX2_c7 HX2_c8 HX2_c9 HX2_c10 HX2_c11 HX2_z
  have HX3_r := HX3.out.row12; have HX3_c0 := (HX3.out.2 0 (by decide)).1; have HX3_f0 := (HX3.out.2 0 (by decide)).2; have HX3_c1 := (HX3.out.2 1 (by decide)).1; have HX3_f1 := (HX3.out.2 1 (by decide)).2; have HX3_c2 := (HX3.out.2 2 (by decide)).1; have HX3_f2 := (HX3.out.2 2 (by decide)).2; have HX3_c3 := (HX3.out.2 3 (by decide)).1; have HX3_f3 := (HX3.out.2 3 (by decide)).2; have HX3_c4 := (HX3.out.2 4 (by decide)).1; have HX3_f4 := (HX3.out.2 4 (by decide)).2; have HX3_c5 := (HX3.out.2 5 (by decide)).1; have HX3_f5 := (HX3.out.2 5 (by decide)).2; have HX3_c6 := (HX3.out.2 6 (by decide)).1; have HX3_f6 := (HX3.out.2 6 (by decide)).2; have HX3_c7 := (HX3.out.2 7 (by decide)).1; have HX3_f7 := (HX3.out.2 7 (by decide)).2; have HX3_c8 := (HX3.out.2 8 (by decide)).1; have HX3_f8 := (HX3.out.2 8 (by decide)).2; have HX3_c9 := (HX3.out.2 9 (by decide)).1; have HX3_f9 := (HX3.out.2 9 (by decide)).2; have HX3_c10 := (HX3.out.2 10 (by decide)).1; have HX3_f10 := (HX3.out.2 10 (by decide)).2; have HX3_c11 := (HX3.out.2 11 (by decide)).1; have HX3_f11 := (HX3.out.2 11 (by decide)).2; have HX3_z := HX3.out.1
  go_upto_region 6 with fail
  generalize hw4 : World.setCell _ _ _ = w4
  have HX4 := Lib.hid (show Ints w4 w.heap.size 12 ti from by rw [← hw4]; exact HX3.out.set12 ti)
  have HZ4 := Lib.hid (show Ints w4 (w.heap.size + 1) 12 (fun _ => 0) from by rw [← hw4]; exact HZ3.out.other12 _ ti (by omega))
  have HF4 := Lib.hid (show Ints w4 (w.heap.size + 1 + 1) 2 (fun _ => 0) from by rw [← hw4]; exact HF3.out.other12 _ ti (by omega))
  have HB4 := Lib.hid (show Below w.heap.size w w4 from by have := HB3.out; rw [← hw4]; exact bel)
  clear hw4 HX3 HZ3 HF3 HB3 HX3_r HX3_f0 HX3_f1 HX3_f2 HX3_f3 HX3_f4 HX3_f5 HX3_f6 HX3_f7 HX3_f8 HX3_f9 HX3_f10 HX3_f11
  clear HX3_c0 HX3_c1 HX3_c2 HX3_c3 HX3_c4 HX3_c5 HX3_c6 HX3_c7 HX3_c8 HX3_c9 HX3_c10 HX3_c11 HX3_z
  have HX4_c0 := (HX4.out.2 0 (by decide)).1; have HX4_c1 := (HX4.out.2 1 (by decide)).1; have HX4_c2 := (HX4.out.2 2 (by decide)).1; have HX4_c3 := (HX4.out.2 3 (by decide)).1; have HX4_c4 := (HX4.out.2 4 (by decide)).1; have HX4_c5 := (HX4.out.2 5 (by decide)).1; have HX4_c6 := (HX4.out.2 6 (by decide)).1; have HX4_c7 := (HX4.out.2 7 (by decide)).1; have HX4_c8 := (HX4.out.2 8 (by decide)).1; have HX4_c9 := (HX4.out.2 9 (by decide)).1; have HX4_c10 := (HX4.out.2 10 (by decide)).1; have HX4_c11 := (HX4.out.2 11 (by decide)).1; have HX4_z := HX4.out.1
  go_wp2_with fail
  refine (NN.out _ (HL.out.below HB4.out)).mono ?_; rintro e w5 ⟨rfl, hb⟩; have hz := hb.size; (try simp only [World.size_alloc, World.heap_drewN, World.size_drew, World.size_setCell] at hz)
  have HB5 := Lib.hid (show Below w.heap.size w w5 from by have := HB4.out; exact bel)
  have HX5 := Lib.hid (HX4.out.below hb)
  have HZ5 := Lib.hid (HZ4.out.below hb)
  have HF5 := Lib.hid (HF4.out.below hb)
  clear hb HX4 HZ4 HF4 HB4
  clear HX4_c0 HX4_c1 HX4_c2 HX4_c3 HX4_c4 HX4_c5 HX4_c6 HX4_c7 HX4_c8 HX4_c9 HX4_c10 HX4_c11 HX4_z
  have HX5_r := HX5.out.row12; have HX5_c0 := (HX5.out.2 0 (by decide)).1; have HX5_f0 := (HX5.out.2 0 (by decide)).2; have HX5_c1 := (HX5.out.2 1 (by decide)).1; have HX5_f1 := (HX5.out.2 1 (by decide)).2; have HX5_c2 := (HX5.out.2 2 (by decide)).1; have HX5_f2 := (HX5.out.2 2 (by decide)).2; have HX5_c3 := (HX5.out.2 3 (by decide)).1; have HX5_f3 := (HX5.out.2 3 (by decide)).2; have HX5_c4 := (HX5.out.2 4 (by decide)).1; have HX5_f4 := (HX5.out.2 4 (by decide)).2; have HX5_c5 := (HX5.out.2 5 (by decide)).1; have HX5_f5 := (HX5.out.2 5 (by decide)).2; have HX5_c6 := (HX5.out.2 6 (by decide)).1; have HX5_f6 := (HX5.out.2 6 (by decide)).2; have HX5_c7 := (HX5.out.2 7 (by decide)).1; have HX5_f7 := (HX5.out.2 7 (by decide)).2; have HX5_c8 := (HX5.out.2 8 (by decide)).1; have HX5_f8 := (HX5.out.2 8 (by decide)).2; have HX5_c9 := (HX5.out.2 9 (by decide)).1; have HX5_f9 := (HX5.out.2 9 (by decide)).2; have HX5_c10 := (HX5.out.2 10 (by decide)).1; have HX5_f10 := (HX5.out.2 10 (by decide)).2; have HX5_c11 := (HX5.out.2 11 (by decide)).1; have HX5_f11 := (HX5.out.2 11 (by decide)).2; have HX5_z := HX5.out.1
  go_upto_region 7 with fail
  generalize hw6 : World.setCell _ _ _ = w6
  have HX6 := Lib.hid (show Ints w6 w.heap.size 12 no from by rw [← hw6]; exact HX5.out.set12 no)
  have HZ6 := Lib.hid (show Ints w6 (w.heap.size + 1) 12 (fun _ => 0) from by rw [← hw6]; exact HZ5.out.other12 _ no (by omega))
  have HF6 := Lib.hid (show Ints w6 (w.heap.size + 1 + 1) 2 (fun _ => 0) from by rw [← hw6]; exact HF5.out.other12 _ no (by omega))
  have HB6 := Lib.hid (show Below w.heap.size w w6 from by have := HB5.out; rw [← hw6]; exact bel)
  clear hw6 HX5 HZ5 HF5 HB5 HX5_r HX5_f0 HX5_f1 HX5_f2 HX5_f3 HX5_f4 HX5_f5 HX5_f6 HX5_f7 HX5_f8 HX5_f9 HX5_f10 HX5_f11
  clear HX5_c0 HX5_c1 HX5_c2 HX5_c3 HX5_c4 HX5_c5 HX5_c6 HX5_c7 HX5_c8 HX5_c9 HX5_c10 HX5_c11 HX5_z
  have HX6_c0 := (HX6.out.2 0 (by decide)).1; have HX6_c1 := (HX6.out.2 1 (by decide)).1; have HX6_c2 := (HX6.out.2 2 (by decide)).1; have HX6_c3 := (HX6.out.2 3 (by decide)).1; have HX6_c4 := (HX6.out.2 4 (by decide)).1; have HX6_c5 := (HX6.out.2 5 (by decide)).1; have HX6_c6 := (HX6.out.2 6 (by decide)).1; have HX6_c7 := (HX6.out.2 7 (by decide)).1; have HX6_c8 := (HX6.out.2 8 (by decide)).1; have HX6_c9 := (HX6.out.2 9 (by decide)).1; have HX6_c10 := (HX6.out.2 10 (by decide)).1; have HX6_c11 := (HX6.out.2 11 (by decide)).1; have HX6_z := HX6.out.1
  go_wp2_with fail
  refine (SS.out _).mono ?_; rintro e w7 ⟨rfl, hb⟩; have hz := hb.size; (try simp only [World.size_alloc, World.heap_drewN, World.size_drew, World.size_setCell] at hz)
  have HB7 := Lib.hid (show Below w.heap.size w w7 from by have := HB6.out; exact bel)
  have HX7 := Lib.hid (HX6.out.below hb)
  have HZ7 := Lib.hid (HZ6.out.below hb)
  have HF7 := Lib.hid (HF6.out.below hb)
  clear hb HX6 HZ6 HF6 HB6
  clear HX6_c0 HX6_c1 HX6_c2 HX6_c3 HX6_c4 HX6_c5 HX6_c6 HX6_c7 HX6_c8 HX6_c9 HX6_c10 HX6_c11 HX6_z
  have HX7_r := HX7.out.row12; have HX7_c0 := (HX7.out.2 0 (by decide)).1; have HX7_f0 := (HX7.out.2 0 (by decide)).2; have HX7_c1 := (HX7.out.2 1 (by decide)).1; have HX7_f1 := (HX7.out.2 1 (by decide)).2; have HX7_c2 := (HX7.out.2 2 (by decide)).1; have HX7_f2 := (HX7.out.2 2 (by decide)).2; have HX7_c3 := (HX7.out.2 3 (by decide)).1; have HX7_f3 := (HX7.out.2 3 (by decide)).2; have HX7_c4 := (HX7.out.2 4 (by decide)).1; have HX7_f4 := (HX7.out.2 4 (by decide)).2; have HX7_c5 := (HX7.out.2 5 (by decide)).1; have HX7_f5 := (HX7.out.2 5 (by decide)).2; have HX7_c6 := (HX7.out.2 6 (by decide)).1; have HX7_f6 := (HX7.out.2 6 (by decide)).2; have HX7_c7 := (HX7.out.2 7 (by decide)).1; have HX7_f7 := (HX7.out.2 7 (by decide)).2; have HX7_c8 := (HX7.out.2 8 (by decide)).1; have HX7_f8 := (HX7.out.2 8 (by decide)).2; have HX7_c9 := (HX7.out.2 9 (by decide)).1; have HX7_f9 := (HX7.out.2 9 (by decide)).2; have HX7_c10 := (HX7.out.2 10 (by decide)).1; have HX7_f10 := (HX7.out.2 10 (by decide)).2; have HX7_c11 := (HX7.out.2 11 (by decide)).1; have HX7_f11 := (HX7.out.2 11 (by decide)).2; have HX7_z := HX7.out.1
  go_upto_region 8 with fail
  generalize hw8 : World.setCell _ _ _ = w8
  have HX8 := Lib.hid (show Ints w8 w.heap.size 12 mi from by rw [← hw8]; exact HX7.out.set12 mi)
  have HZ8 := Lib.hid (show Ints w8 (w.heap.size + 1) 12 (fun _ => 0) from by rw [← hw8]; exact HZ7.out.other12 _ mi (by omega))
  have HF8 := Lib.hid (show Ints w8 (w.heap.size + 1 + 1) 2 (fun _ => 0) from by rw [← hw8]; exact HF7.out.other12 _ mi (by omega))
  have HB8 := Lib.hid (show Below w.heap.size w w8 from by have := HB7.out; rw [← hw8]; exact bel)
  clear hw8 HX7 HZ7 HF7 HB7 HX7_r HX7_f0 HX7_f1 HX7_f2 HX7_f3 HX7_f4 HX7_f5 HX7_f6 HX7_f7 HX7_f8 HX7_f9 HX7_f10 HX7_f11
  clear HX7_c0 HX7_c1 HX7_c2 HX7_c3 HX7_c4 HX7_c5 HX7_c6 HX7_c7 HX7_c8 HX7_c9 HX7_c10 HX7_c11 HX7_z
  have HX8_c0 := (HX8.out.2 0 (by decide)).1; have HX8_c1 := (HX8.out.2 1 (by decide)).1; have HX8_c2 := (HX8.out.2 2 (by decide)).1; have HX8_c3 := (HX8.out.2 3 (by decide)).1; have HX8_c4 := (HX8.out.2 4 (by decide)).1; have HX8_c5 := (HX8.out.2 5 (by decide)).1; have HX8_c6 := (HX8.out.2 6 (by decide)).1; have HX8_c7 := (HX8.out.2 7 (by decide)).1; have HX8_c8 := (HX8.out.2 8 (by decide)).1; have HX8_c9 := (HX8.out.2 9 (by decide)).1; have HX8_c10 := (HX8.out.2 10 (by decide)).1; have HX8_c11 := (HX8.out.2 11 (by decide)).1; have HX8_z := HX8.out.1
  go_wp2_with fail
  refine (LL.out _ (HL.out.below HB8.out)).mono ?_; rintro e w9 ⟨rfl, hb⟩; have hz := hb.size; (try simp only [World.size_alloc, World.heap_drewN, World.size_drew, World.size_setCell] at hz)
  have HB9 := Lib.hid (show Below w.heap.size w w9 from by have := HB8.out; exact bel)
  have HZ9 := Lib.hid (HZ8.out.below hb)
  have HF9 := Lib.hid (HF8.out.below hb)
  clear hb HX8 HZ8 HF8 HB8
  clear HX8_c0 HX8_c1 HX8_c2 HX8_c3 HX8_c4 HX8_c5 HX8_c6 HX8_c7 HX8_c8 HX8_c9 HX8_c10 HX8_c11 HX8_z
  have HZ9_r := HZ9.out.row12; have HZ9_c0 := (HZ9.out.2 0 (by decide)).1; have HZ9_f0 := (HZ9.out.2 0 (by decide)).2; have HZ9_c1 := (HZ9.out.2 1 (by decide)).1; have HZ9_f1 := (HZ9.out.2 1 (by decide)).2; have HZ9_c2 := (HZ9.out.2 2 (by decide)).1; have HZ9_f2 := (HZ9.out.2 2 (by decide)).2; have HZ9_c3 := (HZ9.out.2 3 (by decide)).1; have HZ9_f3 := (HZ9.out.2 3 (by decide)).2; have HZ9_c4 := (HZ9.out.2 4 (by decide)).1; have HZ9_f4 := (HZ9.out.2 4 (by decide)).2; have HZ9_c5 := (HZ9.out.2 5 (by decide)).1; have HZ9_f5 := (HZ9.out.2 5 (by decide)).2; have HZ9_c6 := (HZ9.out.2 6 (by decide)).1; have HZ9_f6 := (HZ9.out.2 6 (by decide)).2; have HZ9_c7 := (HZ9.out.2 7 (by decide)).1; have HZ9_f7 := (HZ9.out.2 7 (by decide)).2; have HZ9_c8 := (HZ9.out.2 8 (by decide)).1; have HZ9_f8 := (HZ9.out.2 8 (by decide)).2; have HZ9_c9 := (HZ9.out.2 9 (by decide)).1; have HZ9_f9 := (HZ9.out.2 9 (by decide)).2; have HZ9_c10 := (HZ9.out.2 10 (by decide)).1; have HZ9_f10 := (HZ9.out.2 10 (by decide)).2; have HZ9_c11 := (HZ9.out.2 11 (by decide)).1; have HZ9_f11 := (HZ9.out.2 11 (by decide)).2; have HZ9_z := HZ9.out.1
  obtain ⟨a0, b0⟩ := HF9.out.2 0 (by decide)
  obtain ⟨a1, b1⟩ := HF9.out.2 1 (by decide)
  have ar := HF9.out.row2
  have az := HF9.out.1
  have := HB9.out
  go_wp2
  generalize hwf : World.setCell _ _ _ = wf; have r1 : wf.rangeAt (w.heap.size + 1) 0 [.int .i64 ((st) 0), .int .i64 ((st) 1), .int .i64 ((st) 2), .int .i64 ((st) 3), .int .i64 ((st) 4), .int .i64 ((st) 5), .int .i64 ((st) 6), .int .i64 ((st) 7), .int .i64 ((st) 8), .int .i64 ((st) 9), .int .i64 ((st) 10), .int .i64 ((st) 11)] := (by rw [← hwf]; exact rng); have r2 : wf.rangeAt (w.heap.size + 1 + 1) 0 [.int .i64 (ou 0), .int .i64 (ou 1)] := (by rw [← hwf]; exact rng); have r3 : Below w.heap.size w wf := (by rw [← hwf]; exact bel); refine bodyPost_ret (ret_cell2_tmp Try.results12 (w.heap.size + 1) [.int .i64 ((st) 0), .int .i64 ((st) 1), .int .i64 ((st) 2), .int .i64 ((st) 3), .int .i64 ((st) 4), .int .i64 ((st) 5), .int .i64 ((st) 6), .int .i64 ((st) 7), .int .i64 ((st) 8), .int .i64 ((st) 9), .int .i64 ((st) 10), .int .i64 ((st) 11)] _ (w.heap.size + 1 + 1) [.int .i64 (ou 0), .int .i64 (ou 1)] _ rfl rfl r1 Try.underlying24 rfl (by kernel_rfl) r2 Try.underlying33 rfl (by kernel_rfl)) rfl ⟨rfl, r3⟩
end Go.Proofs.Ytkdmmomfolhfbaa
