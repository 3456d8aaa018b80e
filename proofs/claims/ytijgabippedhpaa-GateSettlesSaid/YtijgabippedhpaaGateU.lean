
import Derived.Test.YtijgabippedhpaaRows
import Derived.Test.YtijgabippedhpaaGateT
namespace Go.Proofs.Ytijgabippedhpaa
set_option linter.unusedVariables false
set_option linter.unusedSimpArgs false
open Go.ChangeShapes Go.WideShapes Go.RowKit

/-! The program's Relay. -/
set_option maxHeartbeats 8000000 in
theorem gRelay_any (n : Int) (f : Nat → Int) (va : Value) (m : Nat) (l : Nat → Int) (w : World) (hf : Bd12 f) (hm : m ≤ 1000) (hl : Prs w va m l) :
    Calls Try.prog 12 #[.int .i64 n, .agg #[.int .i64 (f 0), .int .i64 (f 1), .int .i64 (f 2), .int .i64 (f 3), .int .i64 (f 4), .int .i64 (f 5), .int .i64 (f 6), .int .i64 (f 7), .int .i64 (f 8), .int .i64 (f 9), .int .i64 (f 10), .int .i64 (f 11)], va] w fun e w' => e = .returned (.tuple #[.agg #[.int .i64 (relayH n f m l 0), .int .i64 (relayH n f m l 1), .int .i64 (relayH n f m l 2), .int .i64 (relayH n f m l 3), .int .i64 (relayH n f m l 4), .int .i64 (relayH n f m l 5), .int .i64 (relayH n f m l 6), .int .i64 (relayH n f m l 7), .int .i64 (relayH n f m l 8), .int .i64 (relayH n f m l 9), .int .i64 (relayH n f m l 10), .int .i64 (relayH n f m l 11)], .agg #[.int .i64 (relayF n f m l 0), .int .i64 (relayF n f m l 1)], .int .i64 (Gate.wrong n f m l)]) ∧ Below w.heap.size w w' := by
  obtain ⟨p1, c1, rfl⟩ := hl.form
  have CW := Lib.hid (fun w hl => gcheck_any n f (.slice p1 m c1) m l w hf hm hl)
  have HL := Lib.hid hl
  by_cases h : Gate.wrong n f m l = 0
  · obtain ⟨hok, hfit⟩ := Gate.wrong_of h
    have h38 := hok.1
    have hmn := hfit.2.1
    subst hmn
    rw [relayH_yes h, relayF_yes h]
    rw [h] at CW ⊢
    have CB := Lib.hid (fun w => block_val m _ (Conf.tm_yes (Conf.right_spec.2 h38)) w)
    have h10 := hok.2.2.2.2.1
    have CI := Lib.hid (fun h0 w (hl : Prs w (.slice p1 m c1) m l) => relayInfo_any m f (.slice p1 m c1) l w hm hl h h0)
    have CS := Lib.hid (fun h0 h9 w (hl : Prs w (.slice p1 m c1) m l) => relayCs_any m f (.slice p1 m c1) l w hm hl h h0 h9)
    have HNO : Hid (¬ 0 < f 10 → ¬ 2 * (m : Int) < f 9 → Gate.relay m f l m = f ∧ Gate.relayed m f l m = fun _ => 0) := fun h0 h9 => relay_none (by unfold Gate.way; rw [if_neg h0, if_neg h9])
    generalize Gate.relay m f l m = g at *
    generalize Gate.relayed m f l m = rf at *
    clear h hok hfit hf
    go_enter Try.func12, Try.ntmps12
    go_upto_region 1 with fail
    have HX0 := Lib.hid (((Ints.box w f 24).alloc (.cells #[.int .i64 ((fun _ => (0 : Int)) 0), .int .i64 ((fun _ => (0 : Int)) 1), .int .i64 ((fun _ => (0 : Int)) 2), .int .i64 ((fun _ => (0 : Int)) 3), .int .i64 ((fun _ => (0 : Int)) 4), .int .i64 ((fun _ => (0 : Int)) 5), .int .i64 ((fun _ => (0 : Int)) 6), .int .i64 ((fun _ => (0 : Int)) 7), .int .i64 ((fun _ => (0 : Int)) 8), .int .i64 ((fun _ => (0 : Int)) 9), .int .i64 ((fun _ => (0 : Int)) 10), .int .i64 ((fun _ => (0 : Int)) 11)] 24)).alloc (.cells #[.int .i64 0, .int .i64 0] 32))
    have HZ0 := Lib.hid ((Ints.zeros (w.alloc (.cells #[.int .i64 (f 0), .int .i64 (f 1), .int .i64 (f 2), .int .i64 (f 3), .int .i64 (f 4), .int .i64 (f 5), .int .i64 (f 6), .int .i64 (f 7), .int .i64 (f 8), .int .i64 (f 9), .int .i64 (f 10), .int .i64 (f 11)] 24)) 24).alloc (.cells #[.int .i64 0, .int .i64 0] 32))
    have HT0 := Lib.hid (Ints.two ((w.alloc (.cells #[.int .i64 (f 0), .int .i64 (f 1), .int .i64 (f 2), .int .i64 (f 3), .int .i64 (f 4), .int .i64 (f 5), .int .i64 (f 6), .int .i64 (f 7), .int .i64 (f 8), .int .i64 (f 9), .int .i64 (f 10), .int .i64 (f 11)] 24)).alloc (.cells #[.int .i64 ((fun _ => (0 : Int)) 0), .int .i64 ((fun _ => (0 : Int)) 1), .int .i64 ((fun _ => (0 : Int)) 2), .int .i64 ((fun _ => (0 : Int)) 3), .int .i64 ((fun _ => (0 : Int)) 4), .int .i64 ((fun _ => (0 : Int)) 5), .int .i64 ((fun _ => (0 : Int)) 6), .int .i64 ((fun _ => (0 : Int)) 7), .int .i64 ((fun _ => (0 : Int)) 8), .int .i64 ((fun _ => (0 : Int)) 9), .int .i64 ((fun _ => (0 : Int)) 10), .int .i64 ((fun _ => (0 : Int)) 11)] 24)) 0 0 32 (fun _ => 0) rfl rfl)
    simp only [World.size_alloc] at HX0 HZ0 HT0
    have HB0 := Lib.hid (show Below w.heap.size w (((w.alloc (.cells #[.int .i64 (f 0), .int .i64 (f 1), .int .i64 (f 2), .int .i64 (f 3), .int .i64 (f 4), .int .i64 (f 5), .int .i64 (f 6), .int .i64 (f 7), .int .i64 (f 8), .int .i64 (f 9), .int .i64 (f 10), .int .i64 (f 11)] 24)).alloc (.cells #[.int .i64 ((fun _ => (0 : Int)) 0), .int .i64 ((fun _ => (0 : Int)) 1), .int .i64 ((fun _ => (0 : Int)) 2), .int .i64 ((fun _ => (0 : Int)) 3), .int .i64 ((fun _ => (0 : Int)) 4), .int .i64 ((fun _ => (0 : Int)) 5), .int .i64 ((fun _ => (0 : Int)) 6), .int .i64 ((fun _ => (0 : Int)) 7), .int .i64 ((fun _ => (0 : Int)) 8), .int .i64 ((fun _ => (0 : Int)) 9), .int .i64 ((fun _ => (0 : Int)) 10), .int .i64 ((fun _ => (0 : Int)) 11)] 24)).alloc (.cells #[.int .i64 0, .int .i64 0] 32)) from bel)
    generalize World.alloc _ _ = w0 at *
    have HX0_c0 := (HX0.out.2 0 (by decide)).1; have HX0_c1 := (HX0.out.2 1 (by decide)).1; have HX0_c2 := (HX0.out.2 2 (by decide)).1; have HX0_c3 := (HX0.out.2 3 (by decide)).1; have HX0_c4 := (HX0.out.2 4 (by decide)).1; have HX0_c5 := (HX0.out.2 5 (by decide)).1; have HX0_c6 := (HX0.out.2 6 (by decide)).1; have HX0_c7 := (HX0.out.2 7 (by decide)).1; have HX0_c8 := (HX0.out.2 8 (by decide)).1; have HX0_c9 := (HX0.out.2 9 (by decide)).1; have HX0_c10 := (HX0.out.2 10 (by decide)).1; have HX0_c11 := (HX0.out.2 11 (by decide)).1; have HX0_z := HX0.out.1
    go_wp2_with fail
    refine (CW.out _ (HL.out.below HB0.out)).mono ?_; rintro e w1 ⟨rfl, hb⟩; have hz := hb.size; (try simp only [World.size_alloc, World.heap_drewN, World.size_drew, World.size_setCell] at hz)
    have HB1 := Lib.hid (show Below w.heap.size w w1 from by have := HB0.out; exact bel)
    have HX1 := Lib.hid (HX0.out.below hb)
    have HZ1 := Lib.hid (HZ0.out.below hb)
    have HT1 := Lib.hid (HT0.out.below hb)
    clear HX0_c0 HX0_c1 HX0_c2 HX0_c3 HX0_c4 HX0_c5 HX0_c6 HX0_c7 HX0_c8 HX0_c9 HX0_c10 HX0_c11 HX0_z
    clear hb HX0 HZ0 HT0 HB0
    have hz9 : w.heap.size + 1 + 1 < w1.heap.size := HT1.out.1
    have hB9 : ∃ b9, w1.heap.size = b9 := ⟨_, rfl⟩
    obtain ⟨b9, hb9⟩ := hB9
    rw [hb9] at hz9
    go_upto_region 5 with fail
    generalize hw2 : World.alloc _ _ = w2
    have HF2 := Lib.hid (show Ints w2 b9 2 (fr2 0 0) from by rw [← hw2, ← hb9]; exact Ints.two w1 0 0 32 _ rfl rfl)
    have HX2 := Lib.hid (show Ints w2 w.heap.size 12 f from by rw [← hw2]; exact HX1.out.alloc _)
    have HZ2 := Lib.hid (show Ints w2 (w.heap.size + 1) 12 (fun _ => 0) from by rw [← hw2]; exact HZ1.out.alloc _)
    have HT2 := Lib.hid (show Ints w2 (w.heap.size + 1 + 1) 2 (fun _ => 0) from by rw [← hw2]; exact HT1.out.alloc _)
    have HB2 := Lib.hid (show Below w.heap.size w w2 from by rw [← hw2]; exact kalloc HB1.out _)
    clear hw2 HX1 HZ1 HT1 HB1 hb9
    by_cases h0 : 0 < f 10
    · have CI := Lib.hid (CI.out h0)
      have HX2_c0 := (HX2.out.2 0 (by decide)).1; have HX2_c1 := (HX2.out.2 1 (by decide)).1; have HX2_c2 := (HX2.out.2 2 (by decide)).1; have HX2_c3 := (HX2.out.2 3 (by decide)).1; have HX2_c4 := (HX2.out.2 4 (by decide)).1; have HX2_c5 := (HX2.out.2 5 (by decide)).1; have HX2_c6 := (HX2.out.2 6 (by decide)).1; have HX2_c7 := (HX2.out.2 7 (by decide)).1; have HX2_c8 := (HX2.out.2 8 (by decide)).1; have HX2_c9 := (HX2.out.2 9 (by decide)).1; have HX2_c10 := (HX2.out.2 10 (by decide)).1; have HX2_c11 := (HX2.out.2 11 (by decide)).1; have HX2_z := HX2.out.1
      go_wp2_with fail
      refine (CI.out _ (HL.out.below HB2.out)).mono ?_; rintro e w3 ⟨rfl, hb⟩; have hz := hb.size; (try simp only [World.size_alloc, World.heap_drewN, World.size_drew, World.size_setCell] at hz)
      have HB3 := Lib.hid (show Below w.heap.size w w3 from by have := HB2.out; exact bel)
      have HX3 := Lib.hid (HX2.out.below hb)
      have HZ3 := Lib.hid (HZ2.out.below hb)
      have HT3 := Lib.hid (HT2.out.below hb)
      have HF3 := Lib.hid (HF2.out.below hb)
      clear HX2_c0 HX2_c1 HX2_c2 HX2_c3 HX2_c4 HX2_c5 HX2_c6 HX2_c7 HX2_c8 HX2_c9 HX2_c10 HX2_c11 HX2_z
      clear hb HX2 HZ2 HT2 HF2 HB2
      have HX3_c0 := (HX3.out.2 0 (by decide)).1; have HX3_f0 := (HX3.out.2 0 (by decide)).2; have HX3_f1 := (HX3.out.2 1 (by decide)).2; have HX3_f2 := (HX3.out.2 2 (by decide)).2; have HX3_f3 := (HX3.out.2 3 (by decide)).2; have HX3_f4 := (HX3.out.2 4 (by decide)).2; have HX3_f5 := (HX3.out.2 5 (by decide)).2; have HX3_f6 := (HX3.out.2 6 (by decide)).2; have HX3_f7 := (HX3.out.2 7 (by decide)).2; have HX3_f8 := (HX3.out.2 8 (by decide)).2; have HX3_f9 := (HX3.out.2 9 (by decide)).2; have HX3_f10 := (HX3.out.2 10 (by decide)).2; have HX3_f11 := (HX3.out.2 11 (by decide)).2; have HX3_c1 := (HX3.out.2 1 (by decide)).1; have HX3_c2 := (HX3.out.2 2 (by decide)).1; have HX3_c3 := (HX3.out.2 3 (by decide)).1; have HX3_c4 := (HX3.out.2 4 (by decide)).1; have HX3_c5 := (HX3.out.2 5 (by decide)).1; have HX3_c6 := (HX3.out.2 6 (by decide)).1; have HX3_c7 := (HX3.out.2 7 (by decide)).1; have HX3_c8 := (HX3.out.2 8 (by decide)).1; have HX3_c9 := (HX3.out.2 9 (by decide)).1; have HX3_c10 := (HX3.out.2 10 (by decide)).1; have HX3_c11 := (HX3.out.2 11 (by decide)).1; have HX3_z := HX3.out.1
      obtain ⟨a0, b0⟩ := HF3.out.2 0 (by decide)
      obtain ⟨a1, b1'⟩ := HF3.out.2 1 (by decide)
      have az := HF3.out.1
      go_upto_region 9 with fail
      generalize hw4 : World.setCell _ _ _ = w4
      have HX4 := Lib.hid (show Ints w4 w.heap.size 12 g from by rw [← hw4]; exact ((HX3.out.set12 g).other _ _ _ (by omega)).other _ _ _ (by omega))
      have HZ4 := Lib.hid (show Ints w4 (w.heap.size + 1) 12 (fun _ => 0) from by rw [← hw4]; exact ((HZ3.out.other12 _ g (by omega)).other _ _ _ (by omega)).other _ _ _ (by omega))
      have HT4 := Lib.hid (show Ints w4 (w.heap.size + 1 + 1) 2 (fun _ => 0) from by rw [← hw4]; exact ((HT3.out.other12 _ g (by omega)).other _ _ _ (by omega)).other _ _ _ (by omega))
      have HF4 := Lib.hid (show Ints w4 b9 2 (fr2 (rf 0) (rf 1)) from by rw [← hw4]; exact (HF3.out.other12 _ g (by omega)).cells2 (rf 0) (rf 1))
      have HB4 := Lib.hid (show Below w.heap.size w w4 from by have := HB3.out; rw [← hw4]; exact bel)
      clear hw4 HX3 HZ3 HT3 HF3 HB3
      have H4 : Four w.heap.size b9 (w.heap.size + 1) (w.heap.size + 1 + 1) g (rf 0) (rf 1) w4 := ⟨HX4.out, HF4.out, ⟨_, HZ4.out⟩, ⟨_, HT4.out⟩⟩
      refine wp_region_held_drew (S := Four (w.heap.size) (b9) (w.heap.size + 1) (w.heap.size + 1 + 1) (g) (rf 0) (rf 1)) (by kernel_rfl) (Four.drew H4) (fun hS => ?_); refine anyH_load (i := 0) rfl (by kernel_rfl) (by kernel_rfl) (by kernel_rfl) _ _ (w.heap.size) 0 (hubL (g)) _ (fun _ _ _ h => h) (by rfl) rfl rfl (fun w h => hubL_row h.hub) Try.underlying24 rfl (by kernel_rfl) hS ?_; simp only [Act.put, List.getElem_toArray, List.getElem_cons_zero, List.getElem_cons_succ, List.setIfInBounds_toArray, List.set_cons_zero, List.set_cons_succ]; refine anyH_load (i := 1) rfl (by kernel_rfl) (by kernel_rfl) (by kernel_rfl) _ _ (b9) 0 (frL (rf 0) (rf 1)) _ (fun _ _ _ h => h) (by rfl) rfl rfl (fun w h => frL_row h.fr) Try.underlying32 rfl (by kernel_rfl) hS ?_; simp only [Act.put, List.getElem_toArray, List.getElem_cons_zero, List.getElem_cons_succ, List.setIfInBounds_toArray, List.set_cons_zero, List.set_cons_succ]; refine anyH_store (k := 2) rfl (by kernel_rfl) _ _ _ (w.heap.size + 1) 0 (hubL (g)).toArray (by rfl) rfl rfl rfl (Exists.choose_spec hS.hub2).there (by kernel_rfl) (hubL_one (g)) (hS.one (by omega) (by omega) (by omega) _) ?_; simp only [Act.put, List.getElem_toArray, List.getElem_cons_zero, List.getElem_cons_succ, List.setIfInBounds_toArray, List.set_cons_zero, List.set_cons_succ]; have hSa := hS.one (g := g) (by omega) (by omega) (by omega); have hXa := (Exists.choose_spec hS.hub2).cells12 (g); have hBa := Lib.hid (below_cells (B := w.heap.size) (b := w.heap.size + 1) (a := w) (by omega) (hubL (g)) 0 _ (kept_drew1 HB4.out)); generalize hwa : World.setCells _ _ _ _ = wa at *; clear hwa; refine anyH_store (k := 3) rfl (by kernel_rfl) _ _ _ (w.heap.size + 1 + 1) 0 (frL (rf 0) (rf 1)).toArray (by rfl) rfl rfl rfl (Exists.choose_spec hSa.fr2).there (by kernel_rfl) (frL_one (rf 0) (rf 1)) (hSa.two (by omega) (by omega) (by omega) _ _) ?_; simp only [Act.put, List.getElem_toArray, List.getElem_cons_zero, List.getElem_cons_succ, List.setIfInBounds_toArray, List.set_cons_zero, List.set_cons_succ]; have hFb := (Exists.choose_spec hSa.fr2).cells2 (rf 0) (rf 1); have hXb := Ints.apart (w.heap.size + 1 + 1) (by omega) (frL (rf 0) (rf 1)) 0 _ hXa; have hBb := Lib.hid (below_cells (B := w.heap.size) (b := w.heap.size + 1 + 1) (a := w) (by omega) (frL (rf 0) (rf 1)) 0 _ hBa.out); have hSb := hSa.two (x := rf 0) (y := rf 1) (by omega) (by omega) (by omega); generalize hwb : World.setCells _ _ _ _ = wb at *; clear hwb hSa hXa hBa; refine wpAnyH_take (i := 4) (v := .int .i64 0) rfl (by kernel_rfl) (by kernel_rfl) (by kernel_rfl) (fun _ _ _ h => h) (Or.inl ⟨by rfl, fun w _ => rfl⟩) hSb ?_; simp only [Act.put, List.getElem_toArray, List.getElem_cons_zero, List.getElem_cons_succ, List.setIfInBounds_toArray, List.set_cons_zero, List.set_cons_succ]; refine wpAnyH_done (by kernel_rfl) ?_ _
      go_wp2
      refine bodyPost_ret (ret_cell2_tmp Try.results12 (w.heap.size + 1) (hubL (g)) _ (w.heap.size + 1 + 1) (frL (rf 0) (rf 1)) _ rfl rfl (hubL_row hXb) Try.underlying24 rfl (by kernel_rfl) (frL_row hFb) Try.underlying32 rfl (by kernel_rfl)) rfl ⟨rfl, hBb.out⟩
    · have hd0 : decide (0 < f 10) = false := decide_eq_false h0
      have c10 := (HX2.out.2 10 (by decide)).1
      have zx := HX2.out.1
      go_upto_region 7 with fail
      clear c10 hd0
      refine region_below (by kernel_rfl) (by kernel_rfl) ?_; intro wR HW
      have HBR := Lib.hid (show Below w.heap.size w wR from by rw [← HW.out]; exact HB2.out)
      have HFR := Lib.hid (show Ints wR b9 2 (fr2 0 0) from by rw [← HW.out]; exact HF2.out)
      have HXR := Lib.hid (show Ints wR w.heap.size 12 f from by rw [← HW.out]; exact HX2.out)
      have HZR := Lib.hid (show Ints wR (w.heap.size + 1) 12 (fun _ => 0) from by rw [← HW.out]; exact HZ2.out)
      have HTR := Lib.hid (show Ints wR (w.heap.size + 1 + 1) 2 (fun _ => 0) from by rw [← HW.out]; exact HT2.out)
      clear HW HB2 HF2 HX2 HZ2 HT2
      have c9 := cell_regrown (HXR.out.2 9 (by decide)).1
      (repeat (first | go_big_quiet_step (with_reducible exact Calls.regrown_of (CB.out _)) | quiet_step (with_reducible exact Calls.regrown_of (CB.out _)))); refine wpQuiet_nil ?_; intro w2 hb2
      have HB2 := Lib.hid (show Below w.heap.size w w2 from by have := HBR.out; exact bthru hb2 this)
      have HF2 := Lib.hid (HFR.out.below hb2)
      have HX2 := Lib.hid (HXR.out.below hb2)
      have HZ2 := Lib.hid (HZR.out.below hb2)
      have HT2 := Lib.hid (HTR.out.below hb2)
      clear hb2 HBR HFR HXR HZR HTR c9 zx
      by_cases h9 : 2 * (m : Int) < f 9
      · have CS := Lib.hid (CS.out (by omega) (by omega))
        clear h0
        have HX2_c0 := (HX2.out.2 0 (by decide)).1; have HX2_c1 := (HX2.out.2 1 (by decide)).1; have HX2_c2 := (HX2.out.2 2 (by decide)).1; have HX2_c3 := (HX2.out.2 3 (by decide)).1; have HX2_c4 := (HX2.out.2 4 (by decide)).1; have HX2_c5 := (HX2.out.2 5 (by decide)).1; have HX2_c6 := (HX2.out.2 6 (by decide)).1; have HX2_c7 := (HX2.out.2 7 (by decide)).1; have HX2_c8 := (HX2.out.2 8 (by decide)).1; have HX2_c9 := (HX2.out.2 9 (by decide)).1; have HX2_c10 := (HX2.out.2 10 (by decide)).1; have HX2_c11 := (HX2.out.2 11 (by decide)).1; have HX2_z := HX2.out.1
        go_wp2_with fail
        refine (CS.out _ (HL.out.below HB2.out)).mono ?_; rintro e w3 ⟨rfl, hb⟩; have hz := hb.size; (try simp only [World.size_alloc, World.heap_drewN, World.size_drew, World.size_setCell] at hz)
        have HB3 := Lib.hid (show Below w.heap.size w w3 from by have := HB2.out; exact bel)
        have HX3 := Lib.hid (HX2.out.below hb)
        have HZ3 := Lib.hid (HZ2.out.below hb)
        have HT3 := Lib.hid (HT2.out.below hb)
        have HF3 := Lib.hid (HF2.out.below hb)
        clear HX2_c0 HX2_c1 HX2_c2 HX2_c3 HX2_c4 HX2_c5 HX2_c6 HX2_c7 HX2_c8 HX2_c9 HX2_c10 HX2_c11 HX2_z
        clear hb HX2 HZ2 HT2 HF2 HB2
        have HX3_c0 := (HX3.out.2 0 (by decide)).1; have HX3_f0 := (HX3.out.2 0 (by decide)).2; have HX3_f1 := (HX3.out.2 1 (by decide)).2; have HX3_f2 := (HX3.out.2 2 (by decide)).2; have HX3_f3 := (HX3.out.2 3 (by decide)).2; have HX3_f4 := (HX3.out.2 4 (by decide)).2; have HX3_f5 := (HX3.out.2 5 (by decide)).2; have HX3_f6 := (HX3.out.2 6 (by decide)).2; have HX3_f7 := (HX3.out.2 7 (by decide)).2; have HX3_f8 := (HX3.out.2 8 (by decide)).2; have HX3_f9 := (HX3.out.2 9 (by decide)).2; have HX3_f10 := (HX3.out.2 10 (by decide)).2; have HX3_f11 := (HX3.out.2 11 (by decide)).2; have HX3_c1 := (HX3.out.2 1 (by decide)).1; have HX3_c2 := (HX3.out.2 2 (by decide)).1; have HX3_c3 := (HX3.out.2 3 (by decide)).1; have HX3_c4 := (HX3.out.2 4 (by decide)).1; have HX3_c5 := (HX3.out.2 5 (by decide)).1; have HX3_c6 := (HX3.out.2 6 (by decide)).1; have HX3_c7 := (HX3.out.2 7 (by decide)).1; have HX3_c8 := (HX3.out.2 8 (by decide)).1; have HX3_c9 := (HX3.out.2 9 (by decide)).1; have HX3_c10 := (HX3.out.2 10 (by decide)).1; have HX3_c11 := (HX3.out.2 11 (by decide)).1; have HX3_z := HX3.out.1
        obtain ⟨a0, b0⟩ := HF3.out.2 0 (by decide)
        obtain ⟨a1, b1'⟩ := HF3.out.2 1 (by decide)
        have az := HF3.out.1
        go_upto_region 9 with fail
        generalize hw4 : World.setCell _ _ _ = w4
        have HX4 := Lib.hid (show Ints w4 w.heap.size 12 g from by rw [← hw4]; exact ((HX3.out.set12 g).other _ _ _ (by omega)).other _ _ _ (by omega))
        have HZ4 := Lib.hid (show Ints w4 (w.heap.size + 1) 12 (fun _ => 0) from by rw [← hw4]; exact ((HZ3.out.other12 _ g (by omega)).other _ _ _ (by omega)).other _ _ _ (by omega))
        have HT4 := Lib.hid (show Ints w4 (w.heap.size + 1 + 1) 2 (fun _ => 0) from by rw [← hw4]; exact ((HT3.out.other12 _ g (by omega)).other _ _ _ (by omega)).other _ _ _ (by omega))
        have HF4 := Lib.hid (show Ints w4 b9 2 (fr2 (rf 0) (rf 1)) from by rw [← hw4]; exact (HF3.out.other12 _ g (by omega)).cells2 (rf 0) (rf 1))
        have HB4 := Lib.hid (show Below w.heap.size w w4 from by have := HB3.out; rw [← hw4]; exact bel)
        clear hw4 HX3 HZ3 HT3 HF3 HB3
        have H4 : Four w.heap.size b9 (w.heap.size + 1) (w.heap.size + 1 + 1) g (rf 0) (rf 1) w4 := ⟨HX4.out, HF4.out, ⟨_, HZ4.out⟩, ⟨_, HT4.out⟩⟩
        refine wp_region_held_drew (S := Four (w.heap.size) (b9) (w.heap.size + 1) (w.heap.size + 1 + 1) (g) (rf 0) (rf 1)) (by kernel_rfl) (Four.drew H4) (fun hS => ?_); refine anyH_load (i := 0) rfl (by kernel_rfl) (by kernel_rfl) (by kernel_rfl) _ _ (w.heap.size) 0 (hubL (g)) _ (fun _ _ _ h => h) (by rfl) rfl rfl (fun w h => hubL_row h.hub) Try.underlying24 rfl (by kernel_rfl) hS ?_; simp only [Act.put, List.getElem_toArray, List.getElem_cons_zero, List.getElem_cons_succ, List.setIfInBounds_toArray, List.set_cons_zero, List.set_cons_succ]; refine anyH_load (i := 1) rfl (by kernel_rfl) (by kernel_rfl) (by kernel_rfl) _ _ (b9) 0 (frL (rf 0) (rf 1)) _ (fun _ _ _ h => h) (by rfl) rfl rfl (fun w h => frL_row h.fr) Try.underlying32 rfl (by kernel_rfl) hS ?_; simp only [Act.put, List.getElem_toArray, List.getElem_cons_zero, List.getElem_cons_succ, List.setIfInBounds_toArray, List.set_cons_zero, List.set_cons_succ]; refine anyH_store (k := 2) rfl (by kernel_rfl) _ _ _ (w.heap.size + 1) 0 (hubL (g)).toArray (by rfl) rfl rfl rfl (Exists.choose_spec hS.hub2).there (by kernel_rfl) (hubL_one (g)) (hS.one (by omega) (by omega) (by omega) _) ?_; simp only [Act.put, List.getElem_toArray, List.getElem_cons_zero, List.getElem_cons_succ, List.setIfInBounds_toArray, List.set_cons_zero, List.set_cons_succ]; have hSa := hS.one (g := g) (by omega) (by omega) (by omega); have hXa := (Exists.choose_spec hS.hub2).cells12 (g); have hBa := Lib.hid (below_cells (B := w.heap.size) (b := w.heap.size + 1) (a := w) (by omega) (hubL (g)) 0 _ (kept_drew1 HB4.out)); generalize hwa : World.setCells _ _ _ _ = wa at *; clear hwa; refine anyH_store (k := 3) rfl (by kernel_rfl) _ _ _ (w.heap.size + 1 + 1) 0 (frL (rf 0) (rf 1)).toArray (by rfl) rfl rfl rfl (Exists.choose_spec hSa.fr2).there (by kernel_rfl) (frL_one (rf 0) (rf 1)) (hSa.two (by omega) (by omega) (by omega) _ _) ?_; simp only [Act.put, List.getElem_toArray, List.getElem_cons_zero, List.getElem_cons_succ, List.setIfInBounds_toArray, List.set_cons_zero, List.set_cons_succ]; have hFb := (Exists.choose_spec hSa.fr2).cells2 (rf 0) (rf 1); have hXb := Ints.apart (w.heap.size + 1 + 1) (by omega) (frL (rf 0) (rf 1)) 0 _ hXa; have hBb := Lib.hid (below_cells (B := w.heap.size) (b := w.heap.size + 1 + 1) (a := w) (by omega) (frL (rf 0) (rf 1)) 0 _ hBa.out); have hSb := hSa.two (x := rf 0) (y := rf 1) (by omega) (by omega) (by omega); generalize hwb : World.setCells _ _ _ _ = wb at *; clear hwb hSa hXa hBa; refine wpAnyH_take (i := 4) (v := .int .i64 0) rfl (by kernel_rfl) (by kernel_rfl) (by kernel_rfl) (fun _ _ _ h => h) (Or.inl ⟨by rfl, fun w _ => rfl⟩) hSb ?_; simp only [Act.put, List.getElem_toArray, List.getElem_cons_zero, List.getElem_cons_succ, List.setIfInBounds_toArray, List.set_cons_zero, List.set_cons_succ]; refine wpAnyH_done (by kernel_rfl) ?_ _
        go_wp2
        refine bodyPost_ret (ret_cell2_tmp Try.results12 (w.heap.size + 1) (hubL (g)) _ (w.heap.size + 1 + 1) (frL (rf 0) (rf 1)) _ rfl rfl (hubL_row hXb) Try.underlying24 rfl (by kernel_rfl) (frL_row hFb) Try.underlying32 rfl (by kernel_rfl)) rfl ⟨rfl, hBb.out⟩
      · obtain ⟨hg, hr⟩ := HNO.out (by omega) (by omega)
        have HXg := Lib.hid (HX2.out.like (g := g) (fun j _ => by rw [hg]))
        have HFg := Lib.hid (show Ints w2 b9 2 (fr2 (rf 0) (rf 1)) from by rw [hr]; exact HF2.out)
        clear h0 hg hr HX2 HF2
        go_upto_region 9 with fail
        have H4 : Four w.heap.size b9 (w.heap.size + 1) (w.heap.size + 1 + 1) g (rf 0) (rf 1) _ := ⟨HXg.out, HFg.out, ⟨_, HZ2.out⟩, ⟨_, HT2.out⟩⟩
        refine wp_region_held_drew (S := Four (w.heap.size) (b9) (w.heap.size + 1) (w.heap.size + 1 + 1) (g) (rf 0) (rf 1)) (by kernel_rfl) (Four.drew H4) (fun hS => ?_); refine anyH_load (i := 0) rfl (by kernel_rfl) (by kernel_rfl) (by kernel_rfl) _ _ (w.heap.size) 0 (hubL (g)) _ (fun _ _ _ h => h) (by rfl) rfl rfl (fun w h => hubL_row h.hub) Try.underlying24 rfl (by kernel_rfl) hS ?_; simp only [Act.put, List.getElem_toArray, List.getElem_cons_zero, List.getElem_cons_succ, List.setIfInBounds_toArray, List.set_cons_zero, List.set_cons_succ]; refine anyH_load (i := 1) rfl (by kernel_rfl) (by kernel_rfl) (by kernel_rfl) _ _ (b9) 0 (frL (rf 0) (rf 1)) _ (fun _ _ _ h => h) (by rfl) rfl rfl (fun w h => frL_row h.fr) Try.underlying32 rfl (by kernel_rfl) hS ?_; simp only [Act.put, List.getElem_toArray, List.getElem_cons_zero, List.getElem_cons_succ, List.setIfInBounds_toArray, List.set_cons_zero, List.set_cons_succ]; refine anyH_store (k := 2) rfl (by kernel_rfl) _ _ _ (w.heap.size + 1) 0 (hubL (g)).toArray (by rfl) rfl rfl rfl (Exists.choose_spec hS.hub2).there (by kernel_rfl) (hubL_one (g)) (hS.one (by omega) (by omega) (by omega) _) ?_; simp only [Act.put, List.getElem_toArray, List.getElem_cons_zero, List.getElem_cons_succ, List.setIfInBounds_toArray, List.set_cons_zero, List.set_cons_succ]; have hSa := hS.one (g := g) (by omega) (by omega) (by omega); have hXa := (Exists.choose_spec hS.hub2).cells12 (g); have hBa := Lib.hid (below_cells (B := w.heap.size) (b := w.heap.size + 1) (a := w) (by omega) (hubL (g)) 0 _ (kept_drew1 HB2.out)); generalize hwa : World.setCells _ _ _ _ = wa at *; clear hwa; refine anyH_store (k := 3) rfl (by kernel_rfl) _ _ _ (w.heap.size + 1 + 1) 0 (frL (rf 0) (rf 1)).toArray (by rfl) rfl rfl rfl (Exists.choose_spec hSa.fr2).there (by kernel_rfl) (frL_one (rf 0) (rf 1)) (hSa.two (by omega) (by omega) (by omega) _ _) ?_; simp only [Act.put, List.getElem_toArray, List.getElem_cons_zero, List.getElem_cons_succ, List.setIfInBounds_toArray, List.set_cons_zero, List.set_cons_succ]; have hFb := (Exists.choose_spec hSa.fr2).cells2 (rf 0) (rf 1); have hXb := Ints.apart (w.heap.size + 1 + 1) (by omega) (frL (rf 0) (rf 1)) 0 _ hXa; have hBb := Lib.hid (below_cells (B := w.heap.size) (b := w.heap.size + 1 + 1) (a := w) (by omega) (frL (rf 0) (rf 1)) 0 _ hBa.out); have hSb := hSa.two (x := rf 0) (y := rf 1) (by omega) (by omega) (by omega); generalize hwb : World.setCells _ _ _ _ = wb at *; clear hwb hSa hXa hBa; refine wpAnyH_take (i := 4) (v := .int .i64 0) rfl (by kernel_rfl) (by kernel_rfl) (by kernel_rfl) (fun _ _ _ h => h) (Or.inl ⟨by rfl, fun w _ => rfl⟩) hSb ?_; simp only [Act.put, List.getElem_toArray, List.getElem_cons_zero, List.getElem_cons_succ, List.setIfInBounds_toArray, List.set_cons_zero, List.set_cons_succ]; refine wpAnyH_done (by kernel_rfl) ?_ _
        go_wp2
        refine bodyPost_ret (ret_cell2_tmp Try.results12 (w.heap.size + 1) (hubL (g)) _ (w.heap.size + 1 + 1) (frL (rf 0) (rf 1)) _ rfl rfl (hubL_row hXb) Try.underlying24 rfl (by kernel_rfl) (frL_row hFb) Try.underlying32 rfl (by kernel_rfl)) rfl ⟨rfl, hBb.out⟩
  · have HX := Lib.hid (fun j => relayH_no h j)
    have HF := Lib.hid (fun j => relayF_no h j)
    simp only [relayH_no h, relayF_no h]
    generalize Gate.wrong n f m l = er at *
    have e0 : (er != 0) = true := by simp [h]
    clear h hl hf
    go_enter Try.func12, Try.ntmps12
    go_wp2_with fail
    have HZ0 := Lib.hid ((Ints.zeros (w.alloc (.cells #[.int .i64 (f 0), .int .i64 (f 1), .int .i64 (f 2), .int .i64 (f 3), .int .i64 (f 4), .int .i64 (f 5), .int .i64 (f 6), .int .i64 (f 7), .int .i64 (f 8), .int .i64 (f 9), .int .i64 (f 10), .int .i64 (f 11)] 24)) 24).alloc (.cells #[.int .i64 0, .int .i64 0] 32))
    have HT0 := Lib.hid (Ints.two ((w.alloc (.cells #[.int .i64 (f 0), .int .i64 (f 1), .int .i64 (f 2), .int .i64 (f 3), .int .i64 (f 4), .int .i64 (f 5), .int .i64 (f 6), .int .i64 (f 7), .int .i64 (f 8), .int .i64 (f 9), .int .i64 (f 10), .int .i64 (f 11)] 24)).alloc (.cells #[.int .i64 ((fun _ => (0 : Int)) 0), .int .i64 ((fun _ => (0 : Int)) 1), .int .i64 ((fun _ => (0 : Int)) 2), .int .i64 ((fun _ => (0 : Int)) 3), .int .i64 ((fun _ => (0 : Int)) 4), .int .i64 ((fun _ => (0 : Int)) 5), .int .i64 ((fun _ => (0 : Int)) 6), .int .i64 ((fun _ => (0 : Int)) 7), .int .i64 ((fun _ => (0 : Int)) 8), .int .i64 ((fun _ => (0 : Int)) 9), .int .i64 ((fun _ => (0 : Int)) 10), .int .i64 ((fun _ => (0 : Int)) 11)] 24)) 0 0 32 (fun _ => 0) rfl rfl)
    simp only [World.size_alloc] at HZ0 HT0
    refine (CW.out _ (HL.out.below bel)).mono ?_
    rintro e w1 ⟨rfl, hb⟩
    have hz := hb.size
    (try simp only [World.size_alloc, World.heap_drewN, World.size_drew, World.size_setCell] at hz)
    have HB1 := Lib.hid (show Below w.heap.size w w1 from bel)
    have HZ1 := Lib.hid (HZ0.out.below hb)
    have HT1 := Lib.hid (HT0.out.below hb)
    clear hb HZ0 HT0
    have HZ1_r := HZ1.out.row12; have HZ1_c0 := (HZ1.out.2 0 (by decide)).1; have HZ1_f0 := (HZ1.out.2 0 (by decide)).2; have HZ1_c1 := (HZ1.out.2 1 (by decide)).1; have HZ1_f1 := (HZ1.out.2 1 (by decide)).2; have HZ1_c2 := (HZ1.out.2 2 (by decide)).1; have HZ1_f2 := (HZ1.out.2 2 (by decide)).2; have HZ1_c3 := (HZ1.out.2 3 (by decide)).1; have HZ1_f3 := (HZ1.out.2 3 (by decide)).2; have HZ1_c4 := (HZ1.out.2 4 (by decide)).1; have HZ1_f4 := (HZ1.out.2 4 (by decide)).2; have HZ1_c5 := (HZ1.out.2 5 (by decide)).1; have HZ1_f5 := (HZ1.out.2 5 (by decide)).2; have HZ1_c6 := (HZ1.out.2 6 (by decide)).1; have HZ1_f6 := (HZ1.out.2 6 (by decide)).2; have HZ1_c7 := (HZ1.out.2 7 (by decide)).1; have HZ1_f7 := (HZ1.out.2 7 (by decide)).2; have HZ1_c8 := (HZ1.out.2 8 (by decide)).1; have HZ1_f8 := (HZ1.out.2 8 (by decide)).2; have HZ1_c9 := (HZ1.out.2 9 (by decide)).1; have HZ1_f9 := (HZ1.out.2 9 (by decide)).2; have HZ1_c10 := (HZ1.out.2 10 (by decide)).1; have HZ1_f10 := (HZ1.out.2 10 (by decide)).2; have HZ1_c11 := (HZ1.out.2 11 (by decide)).1; have HZ1_f11 := (HZ1.out.2 11 (by decide)).2; have HZ1_z := HZ1.out.1
    obtain ⟨a0, b0⟩ := HT1.out.2 0 (by decide)
    obtain ⟨a1, b1'⟩ := HT1.out.2 1 (by decide)
    have ar := HT1.out.row2
    have az := HT1.out.1
    have := HB1.out
    go_wp2
    generalize hwf : World.setCell _ _ _ = wf
    have r1 : Ints wf (w.heap.size + 1) 12 (fun _ => 0) := by rw [← hwf]; exact ((HZ1.out.set12 (fun _ => 0)).other _ _ _ (by omega)).other _ _ _ (by omega)
    have r2 : Ints wf (w.heap.size + 1 + 1) 2 (fr2 0 0) := by rw [← hwf]; exact (HT1.out.other12 _ (fun _ => 0) (by omega)).cells2 0 0
    have r3 : Below w.heap.size w wf := by rw [← hwf]; exact bel
    refine bodyPost_ret (ret_cell2_tmp Try.results12 (w.heap.size + 1) (hubL ((fun _ => 0))) _ (w.heap.size + 1 + 1) (frL (0) (0)) _ rfl rfl (hubL_row r1) Try.underlying24 rfl (by kernel_rfl) (frL_row r2) Try.underlying32 rfl (by kernel_rfl)) rfl ⟨rfl, r3⟩
end Go.Proofs.Ytijgabippedhpaa
