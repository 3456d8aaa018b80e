
import Derived.Test.YtijgabippedhpaaRows
import Derived.Test.YtijgabippedhpaaGateP
namespace Go.Proofs.Ytijgabippedhpaa
set_option linter.unusedVariables false
set_option linter.unusedSimpArgs false
open Go.ChangeShapes Go.WideShapes Go.RowKit

/-! The program's Note. -/
theorem Ints.frame (w : World) (k i : Int) (t : TypeId) : Ints (((w.alloc (.cells #[.int .i64 0, .int .i64 0] t)).setCell ⟨w.heap.size, 0, none⟩ (.int .i64 k)).setCell ⟨w.heap.size, 1, none⟩ (.int .i64 i)) w.heap.size 2 (fr2 k i) := by
  refine (((Ints.two w 0 0 t (fun _ => 0) rfl rfl).set 0 k (by decide) (fun j => if j = 0 then k else 0) (fun j => rfl)).set 1 i (by decide) (fun j => if j = 1 then i else if j = 0 then k else 0) (fun j => rfl)).like (fun j hj => ?_)
  have h2 : j = 0 ∨ j = 1 := by omega
  rcases h2 with rfl | rfl <;> rfl
theorem frame_below {a w : World} (h : Below a.heap.size a w) (k i : Int) (t : TypeId) : Below a.heap.size a (((w.alloc (.cells #[.int .i64 0, .int .i64 0] t)).setCell ⟨w.heap.size, 0, none⟩ (.int .i64 k)).setCell ⟨w.heap.size, 1, none⟩ (.int .i64 i)) :=
  kset (kset (kalloc h _) h.size _) h.size _
theorem at_two {l : Nat → Int} {p : Nat} (h : Gate.At l p) (hk : l (p * 2) = 2) : l (p * 2 + 1) = p := by
  rcases h with h | h
  · omega
  · exact h.2
theorem at_one' {l : Nat → Int} {p : Nat} (h : Gate.At l p) (hk : l (p * 2) = 1) : l (p * 2 + 1) = p := by
  rcases h with h | h
  · omega
  · exact h.2
set_option maxHeartbeats 4000000 in
theorem gNote_any (n : Int) (f : Nat → Int) (va : Value) (m : Nat) (l : Nat → Int) (w : World) (hf : Bd12 f) (hm : m ≤ 1000) (hl : Prs w va m l) :
    Calls Try.prog 8 #[.int .i64 n, .agg #[.int .i64 (f 0), .int .i64 (f 1), .int .i64 (f 2), .int .i64 (f 3), .int .i64 (f 4), .int .i64 (f 5), .int .i64 (f 6), .int .i64 (f 7), .int .i64 (f 8), .int .i64 (f 9), .int .i64 (f 10), .int .i64 (f 11)], va] w fun e w' => e = .returned (.tuple #[.agg #[.int .i64 (noted n f m l 0), .int .i64 (noted n f m l 1), .int .i64 (noted n f m l 2), .int .i64 (noted n f m l 3), .int .i64 (noted n f m l 4), .int .i64 (noted n f m l 5), .int .i64 (noted n f m l 6), .int .i64 (noted n f m l 7), .int .i64 (noted n f m l 8), .int .i64 (noted n f m l 9), .int .i64 (noted n f m l 10), .int .i64 (noted n f m l 11)], .int .i64 (Gate.wrong n f m l)]) ∧ Below w.heap.size w w' := by
  obtain ⟨p1, c1, rfl⟩ := hl.form
  have CW := Lib.hid (fun w hl => gcheck_any n f (.slice p1 m c1) m l w hf hm hl)
  have HL := Lib.hid hl
  clear hl
  by_cases h : Gate.wrong n f m l = 0
  · obtain ⟨hok, hfit⟩ := Gate.wrong_of h
    have h38 := hok.1
    have hmn := hfit.2.1
    have HA := Lib.hid hfit.2.2
    have HG : Hid (∀ j, noted n f m l j = Gate.note n f l j) := fun j => noted_yes h j
    generalize noted n f m l = g at *
    rw [h] at CW ⊢
    subst hmn
    clear h hok hfit hf
    go_enter Try.func8, Try.ntmps8
    go_wp2_with fail
    have HI0 := Lib.hid ((Ints.box w (noteK f l 0) 24).alloc (.cells #[.int .i64 ((fun _ => (0 : Int)) 0), .int .i64 ((fun _ => (0 : Int)) 1), .int .i64 ((fun _ => (0 : Int)) 2), .int .i64 ((fun _ => (0 : Int)) 3), .int .i64 ((fun _ => (0 : Int)) 4), .int .i64 ((fun _ => (0 : Int)) 5), .int .i64 ((fun _ => (0 : Int)) 6), .int .i64 ((fun _ => (0 : Int)) 7), .int .i64 ((fun _ => (0 : Int)) 8), .int .i64 ((fun _ => (0 : Int)) 9), .int .i64 ((fun _ => (0 : Int)) 10), .int .i64 ((fun _ => (0 : Int)) 11)] 24))
    have HZ0 := Lib.hid (Ints.zeros (w.alloc (.cells #[.int .i64 (noteK f l 0 0), .int .i64 (noteK f l 0 1), .int .i64 (noteK f l 0 2), .int .i64 (noteK f l 0 3), .int .i64 (noteK f l 0 4), .int .i64 (noteK f l 0 5), .int .i64 (noteK f l 0 6), .int .i64 (noteK f l 0 7), .int .i64 (noteK f l 0 8), .int .i64 (noteK f l 0 9), .int .i64 (noteK f l 0 10), .int .i64 (noteK f l 0 11)] 24)) 24)
    simp only [show noteK f l 0 = f from funext fun j => if_neg (by omega)] at HI0 HZ0
    refine (CW.out _ (HL.out.below bel)).mono ?_
    rintro e w1 ⟨rfl, hb⟩
    have hz := hb.size
    (try simp only [World.size_alloc, World.heap_drewN, World.size_drew, World.size_setCell] at hz)
    have HB1 := Lib.hid (show Below w.heap.size w w1 from bel)
    have HI1 := Lib.hid (HI0.out.below hb)
    have HZ1 := Lib.hid (HZ0.out.below hb)
    clear hb HI0 HZ0
    go_wp2_with fail
    go_loopw [21] (fun k wr => ∃ K : Nat, K ≤ m ∧ k = .int .i64 K ∧ Ints wr w.heap.size 12 (noteK f l K) ∧ Ints wr (w.heap.size + 1) 12 (fun _ => 0) ∧ Below w.heap.size w wr) (fun k _ => m - (intOf k).toNat)
    case atStart =>
      have := HB1.out
      refine ⟨0, by omega, rfl, ?_, ?_, bel⟩
      · rw [show noteK f l 0 = f from funext fun j => if_neg (by omega)]; exact HI1.out
      · simpa using HZ1.out
    case round =>
      clear HI1 HZ1 HB1
      obtain ⟨K, hK, rfl, hI, hZ, hb⟩ := hrel
      have HB := Lib.hid hb
      have HI := Lib.hid hI
      have HZ := Lib.hid hZ
      by_cases hlt : K < m
      · have h1 : (K : Int) < m := by omega
        have h8 : (K : Int) < 8 := by omega
        have h0 : (0 : Int) ≤ K := by omega
        obtain ⟨b1, o1, rfl, hl1, hc1⟩ := HL.out.some (by omega)
        obtain ⟨c0, c1⟩ := two_cells hc1 hb hlt
        have CI := Lib.hid (fun w => gInfo_any (K : Int) w)
        have HAT := Lib.hid (HA.out K hlt)
        clear hb hI hZ hc1
        by_cases hk : l (K * 2) = 2
        · have HN := Lib.hid (fun j => noteK_yes (f := f) hk j)
          have hi := at_two HAT.out hk
          rw [hk] at c0
          rw [hi] at c1
          clear hk hi HAT
          go_upto_region 7 with fail
          generalize hw2 : World.alloc _ _ = w2
          have HF2 := Lib.hid (show Ints w2 wr.heap.size 2 (fr2 2 K) from by rw [← hw2]; exact Ints.two wr 2 K 32 _ rfl rfl)
          have HB2 := Lib.hid (show Below w.heap.size w w2 from by rw [← hw2]; exact kalloc HB.out _)
          have HM2 := Lib.hid (show Below wr.heap.size wr w2 from by rw [← hw2]; exact kalloc (Below.refl _ _) _)
          clear hw2 c0 c1
          refine region_below (by kernel_rfl) (by kernel_rfl) ?_; intro wR HW; have HBR := Lib.hid (show Below w.heap.size w wR from by have := HB2.out; rw [← HW.out]; exact bel); have HRW := Lib.hid (show Below w2.heap.size w2 wR from by rw [← HW.out]; exact Below.refl _ _); have HIR := Lib.hid (show Ints wR (wr.heap.size) 2 (fr2 (2) (K)) from by rw [← HW.out]; exact HF2.out); have c0 := cell_regrown (show wR.cell? ⟨wr.heap.size, 0, none⟩ = some (Value.int .i64 (2)) from (HIR.out.2 0 (by decide)).1); have c1 := cell_regrown (show wR.cell? ⟨wr.heap.size, 1, none⟩ = some (Value.int .i64 (K)) from (HIR.out.2 1 (by decide)).1); have hzr := HIR.out.1; (repeat (first | go_big_quiet_step (with_reducible exact Calls.regrown_of (CI.out _)) | quiet_step (with_reducible exact Calls.regrown_of (CI.out _)))); refine wpQuiet_nil ?_; intro w3 hb2; have HBw3 := Lib.hid (show Below w.heap.size w w3 from by have := HBR.out; exact bthru hb2 this); have HFw3 := Lib.hid (HIR.out.below hb2); have HNw3 := Lib.hid (bthru hb2 HRW.out); clear hb2 HIR HBR c0 c1 hzr HW HRW
          have HM3 := Lib.hid (bthru HNw3.out HM2.out)
          have HI3 := Lib.hid (HI.out.below HM3.out)
          have HZ3 := Lib.hid (HZ.out.below HM3.out)
          obtain ⟨k0, f0⟩ := HI3.out.2 K (by omega)
          have hz := HI3.out.1
          clear HI HZ HB HB2 HM2 HF2
          go_wp2
          go_roundw
          case rel =>
            have := HBw3.out
            exact ⟨K + 1, by omega, by go_num, HI3.out.set K 0 (by omega) _ HN.out, HZ3.out.other _ _ _ (by omega), bel⟩
          case measure => simp [intOf]; omega
        · have HN := Lib.hid (noteK_no (f := f) hk)
          have e0 : (l (K * 2) == 2) = false := by simp [hk]
          clear hk HAT
          generalize l (K * 2) = k at *
          generalize l (K * 2 + 1) = i at *
          go_upto_region 7 with fail
          generalize hw2 : World.alloc _ _ = w2
          have HF2 := Lib.hid (show Ints w2 wr.heap.size 2 (fr2 k i) from by rw [← hw2]; exact Ints.two wr k i 32 _ rfl rfl)
          have HB2 := Lib.hid (show Below w.heap.size w w2 from by rw [← hw2]; exact kalloc HB.out _)
          have HM2 := Lib.hid (show Below wr.heap.size wr w2 from by rw [← hw2]; exact kalloc (Below.refl _ _) _)
          clear hw2 c0 c1
          refine region_below (by kernel_rfl) (by kernel_rfl) ?_; intro wR HW; have HBR := Lib.hid (show Below w.heap.size w wR from by have := HB2.out; rw [← HW.out]; exact bel); have HRW := Lib.hid (show Below w2.heap.size w2 wR from by rw [← HW.out]; exact Below.refl _ _); have HIR := Lib.hid (show Ints wR (wr.heap.size) 2 (fr2 (k) (i)) from by rw [← HW.out]; exact HF2.out); have c0 := cell_regrown (show wR.cell? ⟨wr.heap.size, 0, none⟩ = some (Value.int .i64 (k)) from (HIR.out.2 0 (by decide)).1); have c1 := cell_regrown (show wR.cell? ⟨wr.heap.size, 1, none⟩ = some (Value.int .i64 (i)) from (HIR.out.2 1 (by decide)).1); have hzr := HIR.out.1; (repeat (first | go_big_quiet_step (with_reducible exact Calls.regrown_of (CI.out _)) | quiet_step (with_reducible exact Calls.regrown_of (CI.out _)))); refine wpQuiet_nil ?_; intro w3 hb2; have HBw3 := Lib.hid (show Below w.heap.size w w3 from by have := HBR.out; exact bthru hb2 this); have HFw3 := Lib.hid (HIR.out.below hb2); have HNw3 := Lib.hid (bthru hb2 HRW.out); clear hb2 HIR HBR c0 c1 hzr HW HRW
          have HM3 := Lib.hid (bthru HNw3.out HM2.out)
          have HI3 := Lib.hid (HI.out.below HM3.out)
          have HZ3 := Lib.hid (HZ.out.below HM3.out)
          clear HI HZ HB HB2 HM2 HF2
          go_wp2
          go_roundw
          case rel =>
            exact ⟨K + 1, by omega, by go_num, by rw [HN.out]; exact HI3.out, HZ3.out, HBw3.out⟩
          case measure => simp [intOf]; omega
      · obtain rfl : K = m := by omega
        have HI := Lib.hid (hI.like (fun j hj => (noteK_end K f l j).trans (HG.out j).symm))
        clear hb hI hZ
        have HI_c0 := (HI.out.2 0 (by decide)).1; have HI_c1 := (HI.out.2 1 (by decide)).1; have HI_c2 := (HI.out.2 2 (by decide)).1; have HI_c3 := (HI.out.2 3 (by decide)).1; have HI_c4 := (HI.out.2 4 (by decide)).1; have HI_c5 := (HI.out.2 5 (by decide)).1; have HI_c6 := (HI.out.2 6 (by decide)).1; have HI_c7 := (HI.out.2 7 (by decide)).1; have HI_c8 := (HI.out.2 8 (by decide)).1; have HI_c9 := (HI.out.2 9 (by decide)).1; have HI_c10 := (HI.out.2 10 (by decide)).1; have HI_c11 := (HI.out.2 11 (by decide)).1; have HI_z := HI.out.1
        have HZ_r := HZ.out.row12; have HZ_c0 := (HZ.out.2 0 (by decide)).1; have HZ_f0 := (HZ.out.2 0 (by decide)).2; have HZ_c1 := (HZ.out.2 1 (by decide)).1; have HZ_f1 := (HZ.out.2 1 (by decide)).2; have HZ_c2 := (HZ.out.2 2 (by decide)).1; have HZ_f2 := (HZ.out.2 2 (by decide)).2; have HZ_c3 := (HZ.out.2 3 (by decide)).1; have HZ_f3 := (HZ.out.2 3 (by decide)).2; have HZ_c4 := (HZ.out.2 4 (by decide)).1; have HZ_f4 := (HZ.out.2 4 (by decide)).2; have HZ_c5 := (HZ.out.2 5 (by decide)).1; have HZ_f5 := (HZ.out.2 5 (by decide)).2; have HZ_c6 := (HZ.out.2 6 (by decide)).1; have HZ_f6 := (HZ.out.2 6 (by decide)).2; have HZ_c7 := (HZ.out.2 7 (by decide)).1; have HZ_f7 := (HZ.out.2 7 (by decide)).2; have HZ_c8 := (HZ.out.2 8 (by decide)).1; have HZ_f8 := (HZ.out.2 8 (by decide)).2; have HZ_c9 := (HZ.out.2 9 (by decide)).1; have HZ_f9 := (HZ.out.2 9 (by decide)).2; have HZ_c10 := (HZ.out.2 10 (by decide)).1; have HZ_f10 := (HZ.out.2 10 (by decide)).2; have HZ_c11 := (HZ.out.2 11 (by decide)).1; have HZ_f11 := (HZ.out.2 11 (by decide)).2; have HZ_z := HZ.out.1
        have := HB.out
        go_wp2
        refine bodyPost_ret (ret_cell_tmp Try.results8 (w.heap.size + 1) [.int .i64 ((g) 0), .int .i64 ((g) 1), .int .i64 ((g) 2), .int .i64 ((g) 3), .int .i64 ((g) 4), .int .i64 ((g) 5), .int .i64 ((g) 6), .int .i64 ((g) 7), .int .i64 ((g) 8), .int .i64 ((g) 9), .int .i64 ((g) 10), .int .i64 ((g) 11)] _ rfl rng Try.underlying24 rfl (by kernel_rfl)) rfl ⟨rfl, ?_⟩; exact bel
  · have HX := Lib.hid (fun j => noted_no h j)
    simp only [noted_no h]
    generalize Gate.wrong n f m l = er at *
    have e0 : (er != 0) = true := by simp [h]
    clear h
    go_enter Try.func8, Try.ntmps8
    go_wp2_with fail
    have HZ0 := Lib.hid (Ints.zeros (w.alloc (.cells #[.int .i64 (f 0), .int .i64 (f 1), .int .i64 (f 2), .int .i64 (f 3), .int .i64 (f 4), .int .i64 (f 5), .int .i64 (f 6), .int .i64 (f 7), .int .i64 (f 8), .int .i64 (f 9), .int .i64 (f 10), .int .i64 (f 11)] 24)) 24)
    refine (CW.out _ (HL.out.below bel)).mono ?_
    rintro e w1 ⟨rfl, hb⟩
    have hz := hb.size
    (try simp only [World.size_alloc, World.heap_drewN, World.size_drew, World.size_setCell] at hz)
    have HB1 := Lib.hid (show Below w.heap.size w w1 from bel)
    have HZ1 := Lib.hid (HZ0.out.below hb)
    rw [World.size_alloc] at HZ1
    clear hb HZ0
    have HZ1_r := HZ1.out.row12; have HZ1_c0 := (HZ1.out.2 0 (by decide)).1; have HZ1_f0 := (HZ1.out.2 0 (by decide)).2; have HZ1_c1 := (HZ1.out.2 1 (by decide)).1; have HZ1_f1 := (HZ1.out.2 1 (by decide)).2; have HZ1_c2 := (HZ1.out.2 2 (by decide)).1; have HZ1_f2 := (HZ1.out.2 2 (by decide)).2; have HZ1_c3 := (HZ1.out.2 3 (by decide)).1; have HZ1_f3 := (HZ1.out.2 3 (by decide)).2; have HZ1_c4 := (HZ1.out.2 4 (by decide)).1; have HZ1_f4 := (HZ1.out.2 4 (by decide)).2; have HZ1_c5 := (HZ1.out.2 5 (by decide)).1; have HZ1_f5 := (HZ1.out.2 5 (by decide)).2; have HZ1_c6 := (HZ1.out.2 6 (by decide)).1; have HZ1_f6 := (HZ1.out.2 6 (by decide)).2; have HZ1_c7 := (HZ1.out.2 7 (by decide)).1; have HZ1_f7 := (HZ1.out.2 7 (by decide)).2; have HZ1_c8 := (HZ1.out.2 8 (by decide)).1; have HZ1_f8 := (HZ1.out.2 8 (by decide)).2; have HZ1_c9 := (HZ1.out.2 9 (by decide)).1; have HZ1_f9 := (HZ1.out.2 9 (by decide)).2; have HZ1_c10 := (HZ1.out.2 10 (by decide)).1; have HZ1_f10 := (HZ1.out.2 10 (by decide)).2; have HZ1_c11 := (HZ1.out.2 11 (by decide)).1; have HZ1_f11 := (HZ1.out.2 11 (by decide)).2; have HZ1_z := HZ1.out.1
    have := HB1.out
    go_wp2
    refine bodyPost_ret (ret_cell_tmp Try.results8 (w.heap.size + 1) [.int .i64 ((fun _ => 0) 0), .int .i64 ((fun _ => 0) 1), .int .i64 ((fun _ => 0) 2), .int .i64 ((fun _ => 0) 3), .int .i64 ((fun _ => 0) 4), .int .i64 ((fun _ => 0) 5), .int .i64 ((fun _ => 0) 6), .int .i64 ((fun _ => 0) 7), .int .i64 ((fun _ => 0) 8), .int .i64 ((fun _ => 0) 9), .int .i64 ((fun _ => 0) 10), .int .i64 ((fun _ => 0) 11)] _ rfl rng Try.underlying24 rfl (by kernel_rfl)) rfl ⟨rfl, ?_⟩; exact bel
end Go.Proofs.Ytijgabippedhpaa
