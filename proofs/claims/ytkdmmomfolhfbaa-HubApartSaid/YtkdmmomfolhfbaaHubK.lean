
import Derived.Test.YtkdmmomfolhfbaaRows
import Derived.Test.YtkdmmomfolhfbaaHubA
namespace Go.Proofs.Ytkdmmomfolhfbaa
set_option linter.unusedVariables false
set_option linter.unusedSimpArgs false
open Go.ChangeShapes Go.WideShapes Go.RowKit

set_option maxHeartbeats 4000000 in
theorem refHStep_no (n : Int) (f : Nat → Int) (va : Value) (m : Nat) (l : Nat → Int) (w : World) (hm : m ≤ maxLen) (hl : Prs w va m l) (h : ¬ Gate.wrong n f m l = 0) :
    Calls Try.prog 12 #[.int .i64 n, .agg #[.int .i64 (f 0), .int .i64 (f 1), .int .i64 (f 2), .int .i64 (f 3), .int .i64 (f 4), .int .i64 (f 5), .int .i64 (f 6), .int .i64 (f 7), .int .i64 (f 8), .int .i64 (f 9), .int .i64 (f 10), .int .i64 (f 11)], va] w fun e w' => e = .returned (.tuple #[.agg #[.int .i64 ((fun _ => (0 : Int)) 0), .int .i64 ((fun _ => (0 : Int)) 1), .int .i64 ((fun _ => (0 : Int)) 2), .int .i64 ((fun _ => (0 : Int)) 3), .int .i64 ((fun _ => (0 : Int)) 4), .int .i64 ((fun _ => (0 : Int)) 5), .int .i64 ((fun _ => (0 : Int)) 6), .int .i64 ((fun _ => (0 : Int)) 7), .int .i64 ((fun _ => (0 : Int)) 8), .int .i64 ((fun _ => (0 : Int)) 9), .int .i64 ((fun _ => (0 : Int)) 10), .int .i64 ((fun _ => (0 : Int)) 11)], .agg #[.int .i64 0, .int .i64 0], .int .i64 (Gate.wrong n f m l)]) ∧ Below w.heap.size w w' := by
  obtain ⟨p1, c1, rfl⟩ := hl.form
  have RR := Lib.hid (fun w => refVRight_any n f w)
  have FF := Lib.hid (fun w hl => refGFits_any n (.slice p1 m c1) m l w hm hl)
  have HL := Lib.hid hl
  by_cases hok : Vote.ok n f = true
  · have hfit : Gate.fits n m l = false := by
      cases q : Gate.fits n m l
      · rfl
      · exfalso; apply h; unfold Gate.wrong; rw [if_pos hok, if_pos q]
    rw [show Gate.wrong n f m l = 2 by unfold Gate.wrong; rw [if_pos hok, hfit]; rfl]
    rw [hok] at RR
    rw [hfit] at FF
    clear h hok hfit hl
    go_enter Try.func12, Try.ntmps12
    go_wp2_with fail
    have HZ0 := Lib.hid ((Ints.zeros (w.alloc (.cells #[.int .i64 (f 0), .int .i64 (f 1), .int .i64 (f 2), .int .i64 (f 3), .int .i64 (f 4), .int .i64 (f 5), .int .i64 (f 6), .int .i64 (f 7), .int .i64 (f 8), .int .i64 (f 9), .int .i64 (f 10), .int .i64 (f 11)] 24)) 24).alloc (.cells #[.int .i64 0, .int .i64 0] 33))
    have HF0 := Lib.hid (Ints.two ((w.alloc (.cells #[.int .i64 (f 0), .int .i64 (f 1), .int .i64 (f 2), .int .i64 (f 3), .int .i64 (f 4), .int .i64 (f 5), .int .i64 (f 6), .int .i64 (f 7), .int .i64 (f 8), .int .i64 (f 9), .int .i64 (f 10), .int .i64 (f 11)] 24)).alloc (.cells #[.int .i64 ((fun _ => (0 : Int)) 0), .int .i64 ((fun _ => (0 : Int)) 1), .int .i64 ((fun _ => (0 : Int)) 2), .int .i64 ((fun _ => (0 : Int)) 3), .int .i64 ((fun _ => (0 : Int)) 4), .int .i64 ((fun _ => (0 : Int)) 5), .int .i64 ((fun _ => (0 : Int)) 6), .int .i64 ((fun _ => (0 : Int)) 7), .int .i64 ((fun _ => (0 : Int)) 8), .int .i64 ((fun _ => (0 : Int)) 9), .int .i64 ((fun _ => (0 : Int)) 10), .int .i64 ((fun _ => (0 : Int)) 11)] 24)) 0 0 33 (fun _ => 0) rfl rfl)
    refine (RR.out _).mono ?_; rintro e w1 ⟨rfl, hb⟩; have hz := hb.size; (try simp only [World.size_alloc, World.heap_drewN, World.size_drew, World.size_setCell] at hz)
    have HB1 := Lib.hid (show Below w.heap.size w w1 from bel)
    have HZ1 := Lib.hid (HZ0.out.below hb)
    have HF1 := Lib.hid (HF0.out.below hb)
    simp only [World.size_alloc] at HZ1 HF1
    clear hb HZ0 HF0
    go_wp2_with fail
    refine (FF.out _ (HL.out.below HB1.out)).mono ?_; rintro e w2 ⟨rfl, hb⟩; have hz := hb.size; (try simp only [World.size_alloc, World.heap_drewN, World.size_drew, World.size_setCell] at hz)
    have HB2 := Lib.hid (show Below w.heap.size w w2 from by have := HB1.out; exact bel)
    have HZ2 := Lib.hid (HZ1.out.below hb)
    have HF2 := Lib.hid (HF1.out.below hb)
    clear hb HZ1 HF1 HB1
    have HZ2_r := HZ2.out.row12; have HZ2_c0 := (HZ2.out.2 0 (by decide)).1; have HZ2_f0 := (HZ2.out.2 0 (by decide)).2; have HZ2_c1 := (HZ2.out.2 1 (by decide)).1; have HZ2_f1 := (HZ2.out.2 1 (by decide)).2; have HZ2_c2 := (HZ2.out.2 2 (by decide)).1; have HZ2_f2 := (HZ2.out.2 2 (by decide)).2; have HZ2_c3 := (HZ2.out.2 3 (by decide)).1; have HZ2_f3 := (HZ2.out.2 3 (by decide)).2; have HZ2_c4 := (HZ2.out.2 4 (by decide)).1; have HZ2_f4 := (HZ2.out.2 4 (by decide)).2; have HZ2_c5 := (HZ2.out.2 5 (by decide)).1; have HZ2_f5 := (HZ2.out.2 5 (by decide)).2; have HZ2_c6 := (HZ2.out.2 6 (by decide)).1; have HZ2_f6 := (HZ2.out.2 6 (by decide)).2; have HZ2_c7 := (HZ2.out.2 7 (by decide)).1; have HZ2_f7 := (HZ2.out.2 7 (by decide)).2; have HZ2_c8 := (HZ2.out.2 8 (by decide)).1; have HZ2_f8 := (HZ2.out.2 8 (by decide)).2; have HZ2_c9 := (HZ2.out.2 9 (by decide)).1; have HZ2_f9 := (HZ2.out.2 9 (by decide)).2; have HZ2_c10 := (HZ2.out.2 10 (by decide)).1; have HZ2_f10 := (HZ2.out.2 10 (by decide)).2; have HZ2_c11 := (HZ2.out.2 11 (by decide)).1; have HZ2_f11 := (HZ2.out.2 11 (by decide)).2; have HZ2_z := HZ2.out.1
    obtain ⟨a0, b0⟩ := HF2.out.2 0 (by decide)
    obtain ⟨a1, b1⟩ := HF2.out.2 1 (by decide)
    have ar := HF2.out.row2
    have az := HF2.out.1
    have := HB2.out
    go_wp2
    generalize hwf : World.setCell _ _ _ = wf; have r1 : wf.rangeAt (w.heap.size + 1) 0 [.int .i64 ((fun _ => 0) 0), .int .i64 ((fun _ => 0) 1), .int .i64 ((fun _ => 0) 2), .int .i64 ((fun _ => 0) 3), .int .i64 ((fun _ => 0) 4), .int .i64 ((fun _ => 0) 5), .int .i64 ((fun _ => 0) 6), .int .i64 ((fun _ => 0) 7), .int .i64 ((fun _ => 0) 8), .int .i64 ((fun _ => 0) 9), .int .i64 ((fun _ => 0) 10), .int .i64 ((fun _ => 0) 11)] := (by rw [← hwf]; exact rng); have r2 : wf.rangeAt (w.heap.size + 1 + 1) 0 [.int .i64 (0), .int .i64 (0)] := (by rw [← hwf]; exact rng); have r3 : Below w.heap.size w wf := (by rw [← hwf]; exact bel); refine bodyPost_ret (ret_cell2_tmp Try.results12 (w.heap.size + 1) [.int .i64 ((fun _ => 0) 0), .int .i64 ((fun _ => 0) 1), .int .i64 ((fun _ => 0) 2), .int .i64 ((fun _ => 0) 3), .int .i64 ((fun _ => 0) 4), .int .i64 ((fun _ => 0) 5), .int .i64 ((fun _ => 0) 6), .int .i64 ((fun _ => 0) 7), .int .i64 ((fun _ => 0) 8), .int .i64 ((fun _ => 0) 9), .int .i64 ((fun _ => 0) 10), .int .i64 ((fun _ => 0) 11)] _ (w.heap.size + 1 + 1) [.int .i64 (0), .int .i64 (0)] _ rfl rfl r1 Try.underlying24 rfl (by kernel_rfl) r2 Try.underlying33 rfl (by kernel_rfl)) rfl ⟨rfl, r3⟩
  · have hok := Bool.eq_false_iff.2 hok
    rw [show Gate.wrong n f m l = 1 by unfold Gate.wrong; rw [hok]; rfl]
    rw [hok] at RR
    clear h hok hl
    go_enter Try.func12, Try.ntmps12
    go_wp2_with fail
    have HZ0 := Lib.hid ((Ints.zeros (w.alloc (.cells #[.int .i64 (f 0), .int .i64 (f 1), .int .i64 (f 2), .int .i64 (f 3), .int .i64 (f 4), .int .i64 (f 5), .int .i64 (f 6), .int .i64 (f 7), .int .i64 (f 8), .int .i64 (f 9), .int .i64 (f 10), .int .i64 (f 11)] 24)) 24).alloc (.cells #[.int .i64 0, .int .i64 0] 33))
    have HF0 := Lib.hid (Ints.two ((w.alloc (.cells #[.int .i64 (f 0), .int .i64 (f 1), .int .i64 (f 2), .int .i64 (f 3), .int .i64 (f 4), .int .i64 (f 5), .int .i64 (f 6), .int .i64 (f 7), .int .i64 (f 8), .int .i64 (f 9), .int .i64 (f 10), .int .i64 (f 11)] 24)).alloc (.cells #[.int .i64 ((fun _ => (0 : Int)) 0), .int .i64 ((fun _ => (0 : Int)) 1), .int .i64 ((fun _ => (0 : Int)) 2), .int .i64 ((fun _ => (0 : Int)) 3), .int .i64 ((fun _ => (0 : Int)) 4), .int .i64 ((fun _ => (0 : Int)) 5), .int .i64 ((fun _ => (0 : Int)) 6), .int .i64 ((fun _ => (0 : Int)) 7), .int .i64 ((fun _ => (0 : Int)) 8), .int .i64 ((fun _ => (0 : Int)) 9), .int .i64 ((fun _ => (0 : Int)) 10), .int .i64 ((fun _ => (0 : Int)) 11)] 24)) 0 0 33 (fun _ => 0) rfl rfl)
    refine (RR.out _).mono ?_; rintro e w1 ⟨rfl, hb⟩; have hz := hb.size; (try simp only [World.size_alloc, World.heap_drewN, World.size_drew, World.size_setCell] at hz)
    have HB1 := Lib.hid (show Below w.heap.size w w1 from bel)
    have HZ1 := Lib.hid (HZ0.out.below hb)
    have HF1 := Lib.hid (HF0.out.below hb)
    simp only [World.size_alloc] at HZ1 HF1
    clear hb HZ0 HF0
    have HZ1_r := HZ1.out.row12; have HZ1_c0 := (HZ1.out.2 0 (by decide)).1; have HZ1_f0 := (HZ1.out.2 0 (by decide)).2; have HZ1_c1 := (HZ1.out.2 1 (by decide)).1; have HZ1_f1 := (HZ1.out.2 1 (by decide)).2; have HZ1_c2 := (HZ1.out.2 2 (by decide)).1; have HZ1_f2 := (HZ1.out.2 2 (by decide)).2; have HZ1_c3 := (HZ1.out.2 3 (by decide)).1; have HZ1_f3 := (HZ1.out.2 3 (by decide)).2; have HZ1_c4 := (HZ1.out.2 4 (by decide)).1; have HZ1_f4 := (HZ1.out.2 4 (by decide)).2; have HZ1_c5 := (HZ1.out.2 5 (by decide)).1; have HZ1_f5 := (HZ1.out.2 5 (by decide)).2; have HZ1_c6 := (HZ1.out.2 6 (by decide)).1; have HZ1_f6 := (HZ1.out.2 6 (by decide)).2; have HZ1_c7 := (HZ1.out.2 7 (by decide)).1; have HZ1_f7 := (HZ1.out.2 7 (by decide)).2; have HZ1_c8 := (HZ1.out.2 8 (by decide)).1; have HZ1_f8 := (HZ1.out.2 8 (by decide)).2; have HZ1_c9 := (HZ1.out.2 9 (by decide)).1; have HZ1_f9 := (HZ1.out.2 9 (by decide)).2; have HZ1_c10 := (HZ1.out.2 10 (by decide)).1; have HZ1_f10 := (HZ1.out.2 10 (by decide)).2; have HZ1_c11 := (HZ1.out.2 11 (by decide)).1; have HZ1_f11 := (HZ1.out.2 11 (by decide)).2; have HZ1_z := HZ1.out.1
    obtain ⟨a0, b0⟩ := HF1.out.2 0 (by decide)
    obtain ⟨a1, b1⟩ := HF1.out.2 1 (by decide)
    have ar := HF1.out.row2
    have az := HF1.out.1
    have := HB1.out
    go_wp2
    generalize hwf : World.setCell _ _ _ = wf; have r1 : wf.rangeAt (w.heap.size + 1) 0 [.int .i64 ((fun _ => 0) 0), .int .i64 ((fun _ => 0) 1), .int .i64 ((fun _ => 0) 2), .int .i64 ((fun _ => 0) 3), .int .i64 ((fun _ => 0) 4), .int .i64 ((fun _ => 0) 5), .int .i64 ((fun _ => 0) 6), .int .i64 ((fun _ => 0) 7), .int .i64 ((fun _ => 0) 8), .int .i64 ((fun _ => 0) 9), .int .i64 ((fun _ => 0) 10), .int .i64 ((fun _ => 0) 11)] := (by rw [← hwf]; exact rng); have r2 : wf.rangeAt (w.heap.size + 1 + 1) 0 [.int .i64 (0), .int .i64 (0)] := (by rw [← hwf]; exact rng); have r3 : Below w.heap.size w wf := (by rw [← hwf]; exact bel); refine bodyPost_ret (ret_cell2_tmp Try.results12 (w.heap.size + 1) [.int .i64 ((fun _ => 0) 0), .int .i64 ((fun _ => 0) 1), .int .i64 ((fun _ => 0) 2), .int .i64 ((fun _ => 0) 3), .int .i64 ((fun _ => 0) 4), .int .i64 ((fun _ => 0) 5), .int .i64 ((fun _ => 0) 6), .int .i64 ((fun _ => 0) 7), .int .i64 ((fun _ => 0) 8), .int .i64 ((fun _ => 0) 9), .int .i64 ((fun _ => 0) 10), .int .i64 ((fun _ => 0) 11)] _ (w.heap.size + 1 + 1) [.int .i64 (0), .int .i64 (0)] _ rfl rfl r1 Try.underlying24 rfl (by kernel_rfl) r2 Try.underlying33 rfl (by kernel_rfl)) rfl ⟨rfl, r3⟩
theorem refHStep_any (n : Int) (f : Nat → Int) (va : Value) (m : Nat) (l : Nat → Int) (w : World) (hm : m ≤ maxLen) (hl : Prs w va m l) :
    Calls Try.prog 12 #[.int .i64 n, .agg #[.int .i64 (f 0), .int .i64 (f 1), .int .i64 (f 2), .int .i64 (f 3), .int .i64 (f 4), .int .i64 (f 5), .int .i64 (f 6), .int .i64 (f 7), .int .i64 (f 8), .int .i64 (f 9), .int .i64 (f 10), .int .i64 (f 11)], va] w fun e w' => e = .returned (.tuple #[.agg #[.int .i64 (stepH n f m l 0), .int .i64 (stepH n f m l 1), .int .i64 (stepH n f m l 2), .int .i64 (stepH n f m l 3), .int .i64 (stepH n f m l 4), .int .i64 (stepH n f m l 5), .int .i64 (stepH n f m l 6), .int .i64 (stepH n f m l 7), .int .i64 (stepH n f m l 8), .int .i64 (stepH n f m l 9), .int .i64 (stepH n f m l 10), .int .i64 (stepH n f m l 11)], .agg #[.int .i64 (stepF n f m l 0), .int .i64 (stepF n f m l 1)], .int .i64 (Gate.wrong n f m l)]) ∧ Below w.heap.size w w' := by
  by_cases h : Gate.wrong n f m l = 0
  · rw [stepH_yes h, stepF_yes h, h]
    exact refHStep_yes n f va m l w hm hl h
  · simp only [stepH_no h, stepF_no h]
    exact refHStep_no n f va m l w hm hl h
/-! What the program's Step must answer. -/
def CHStep : Prop := ∀ (n : Int) (f : Nat → Int) (va : Value) (m : Nat) (l : Nat → Int) (w : World), Bd n → Bd12 f → m ≤ 1000 → Prs w va m l → Calls Try.prog 11 #[.int .i64 n, .agg #[.int .i64 (f 0), .int .i64 (f 1), .int .i64 (f 2), .int .i64 (f 3), .int .i64 (f 4), .int .i64 (f 5), .int .i64 (f 6), .int .i64 (f 7), .int .i64 (f 8), .int .i64 (f 9), .int .i64 (f 10), .int .i64 (f 11)], va] w fun e w' => e = .returned (.tuple #[.agg #[.int .i64 (stepH n f m l 0), .int .i64 (stepH n f m l 1), .int .i64 (stepH n f m l 2), .int .i64 (stepH n f m l 3), .int .i64 (stepH n f m l 4), .int .i64 (stepH n f m l 5), .int .i64 (stepH n f m l 6), .int .i64 (stepH n f m l 7), .int .i64 (stepH n f m l 8), .int .i64 (stepH n f m l 9), .int .i64 (stepH n f m l 10), .int .i64 (stepH n f m l 11)], .agg #[.int .i64 (stepF n f m l 0), .int .i64 (stepF n f m l 1)], .int .i64 (Gate.wrong n f m l)]) ∧ Below w.heap.size w w'
end Go.Proofs.Ytkdmmomfolhfbaa
namespace Go.Proofs.Ytkdmmomfolhfbaa
set_option linter.unusedVariables false
set_option linter.unusedSimpArgs false
open Go.ChangeShapes Go.WideShapes Go.RowKit

def awT (j : Nat) : Int := if j = 2 then 1 else if j = 3 then 1 else 0
theorem awT_prs {w : World} {b : Nat} (h : w.rangeAt b 0 [.int .i64 0, .int .i64 0, .int .i64 1, .int .i64 1, .int .i64 0, .int .i64 0]) (hb : b < w.heap.size) : Prs w (.slice (some ⟨b, 0, none⟩) 3 3) 3 awT := by
  refine Or.inr ⟨b, 0, 3, rfl, hb, fun j hj => ?_⟩
  have h6 : j = 0 ∨ j = 1 ∨ j = 2 ∨ j = 3 ∨ j = 4 ∨ j = 5 := by omega
  rcases h6 with rfl | rfl | rfl | rfl | rfl | rfl
  · exact range_cell h 0 rfl
  · exact range_cell h 1 rfl
  · exact range_cell h 2 rfl
  · exact range_cell h 3 rfl
  · exact range_cell h 4 rfl
  · exact range_cell h 5 rfl
set_option maxHeartbeats 2000000 in
theorem awake13_of (hS : CHStep) (w : World) :
    Calls Try.prog 8 #[] w fun e w' => e = .returned (.bool true) ∧ Below w.heap.size w w' := by
  have b3 : Bd 3 := by unfold Bd; omega
  have FR := Lib.hid (fun w => refVFresh_any 3 w)
  have S1 := Lib.hid (fun va w hl => hS 3 (Vote.fresh 3) va 3 awT w b3 (fresh_bd 3) (by decide) hl)
  have S2 := Lib.hid (fun w => hS 3 (Vote.fresh 3) (.slice none 0 0) 0 awT w b3 (fresh_bd 3) (by decide) (Or.inl ⟨rfl, _, _, rfl⟩))
  rw [show Gate.wrong 3 (Vote.fresh 3) 3 awT = 0 from by decide +kernel, show stepF 3 (Vote.fresh 3) 3 awT 0 = 1 from by decide +kernel, show stepF 3 (Vote.fresh 3) 3 awT 1 = 1 from by decide +kernel] at S1
  rw [show Gate.wrong 3 (Vote.fresh 3) 0 awT = 2 from by decide +kernel] at S2
  have E8 : Hid (stepH 3 (Vote.fresh 3) 3 awT 8 = 1) := (by decide +kernel : stepH 3 (Vote.fresh 3) 3 awT 8 = 1)
  generalize stepH 3 (Vote.fresh 3) 3 awT = k at *
  generalize stepH 3 (Vote.fresh 3) 0 awT = k2 at *
  generalize stepF 3 (Vote.fresh 3) 0 awT = r2 at *
  generalize Vote.fresh 3 = g at *
  generalize Vote.err 3 = er at *
  clear hS
  go_enter Try.func8, Try.ntmps8
  go_wp2_with fail
  refine (FR.out _).mono ?_; rintro e w1 ⟨rfl, hb⟩; have hz := hb.size; (try simp only [World.size_alloc, World.heap_drewN, World.size_drew, World.size_setCell] at hz)
  have HB1 := Lib.hid (show Below w.heap.size w w1 from bel)
  clear hb
  go_wp2_with fail
  have HG1 := Lib.hid ((Ints.box w1 g 24).alloc (.cells #[.int .i64 0, .int .i64 0, .int .i64 1, .int .i64 1, .int .i64 0, .int .i64 0] 33))
  refine (S1.out _ _ (awT_prs (b := w1.heap.size + 1) rng (by simp))).mono ?_
  rintro e w2 ⟨rfl, hb⟩
  have hz := hb.size
  (try simp only [World.size_alloc, World.heap_drewN, World.size_drew, World.size_setCell] at hz)
  have HB2 := Lib.hid (show Below w.heap.size w w2 from by have := HB1.out; exact bel)
  have HG2 := Lib.hid (HG1.out.below hb)
  clear hb HG1 HB1
  have HG2_c0 := (HG2.out.2 0 (by decide)).1; have HG2_c1 := (HG2.out.2 1 (by decide)).1; have HG2_c2 := (HG2.out.2 2 (by decide)).1; have HG2_c3 := (HG2.out.2 3 (by decide)).1; have HG2_c4 := (HG2.out.2 4 (by decide)).1; have HG2_c5 := (HG2.out.2 5 (by decide)).1; have HG2_c6 := (HG2.out.2 6 (by decide)).1; have HG2_c7 := (HG2.out.2 7 (by decide)).1; have HG2_c8 := (HG2.out.2 8 (by decide)).1; have HG2_c9 := (HG2.out.2 9 (by decide)).1; have HG2_c10 := (HG2.out.2 10 (by decide)).1; have HG2_c11 := (HG2.out.2 11 (by decide)).1; have HG2_z := HG2.out.1
  go_wp2_with fail
  have HK := Lib.hid ((Ints.box w2 k 24).alloc (.cells #[.int .i64 1, .int .i64 1] 33))
  have HF := Lib.hid (Ints.two (w2.alloc (.cells #[.int .i64 (k 0), .int .i64 (k 1), .int .i64 (k 2), .int .i64 (k 3), .int .i64 (k 4), .int .i64 (k 5), .int .i64 (k 6), .int .i64 (k 7), .int .i64 (k 8), .int .i64 (k 9), .int .i64 (k 10), .int .i64 (k 11)] 24)) 1 1 33 (fun _ => 1) rfl rfl)
  refine (S2.out _).mono ?_; rintro e w3 ⟨rfl, hb⟩; have hz := hb.size; (try simp only [World.size_alloc, World.heap_drewN, World.size_drew, World.size_setCell] at hz)
  have HB3 := Lib.hid (show Below w.heap.size w w3 from by have := HB2.out; exact bel)
  have HK3 := Lib.hid (HK.out.below hb)
  have HF3 := Lib.hid (HF.out.below hb)
  rw [World.size_alloc] at HF3
  clear hb HK HF HG2 HB2
  clear HG2_c0 HG2_c1 HG2_c2 HG2_c3 HG2_c4 HG2_c5 HG2_c6 HG2_c7 HG2_c8 HG2_c9 HG2_c10 HG2_c11 HG2_z
  have c8 := (HK3.out.2 8 (by decide)).1
  rw [E8.out] at c8
  have d0 := (HF3.out.2 0 (by decide)).1
  have d1 := (HF3.out.2 1 (by decide)).1
  have z0 := HF3.out.1
  have z1 := HK3.out.1
  have := HB3.out
  go_wp2
  go_ret
  exact ⟨rfl, bel⟩
end Go.Proofs.Ytkdmmomfolhfbaa
