
import Derived.Test.YtkdmmomfolhfbaaRows
import Derived.Test.YtkdmmomfolhfbaaGateX
namespace Go.Proofs.Ytkdmmomfolhfbaa
set_option linter.unusedVariables false
set_option linter.unusedSimpArgs false
open Go.ChangeShapes Go.WideShapes Go.RowKit

set_option maxHeartbeats 4000000 in
theorem refGRelay_hold (m : Nat) (f : Nat → Int) (va : Value) (l : Nat → Int) (w : World) (hm : m ≤ maxLen) (hl : Prs w va m l) (h : Gate.wrong m f m l = 0) (h0 : 0 < f 10) :
    Calls Try.prog 25 #[.int .i64 m, .agg #[.int .i64 (f 0), .int .i64 (f 1), .int .i64 (f 2), .int .i64 (f 3), .int .i64 (f 4), .int .i64 (f 5), .int .i64 (f 6), .int .i64 (f 7), .int .i64 (f 8), .int .i64 (f 9), .int .i64 (f 10), .int .i64 (f 11)], va] w fun e w' => e = .returned (.tuple #[.agg #[.int .i64 (relayH m f m l 0), .int .i64 (relayH m f m l 1), .int .i64 (relayH m f m l 2), .int .i64 (relayH m f m l 3), .int .i64 (relayH m f m l 4), .int .i64 (relayH m f m l 5), .int .i64 (relayH m f m l 6), .int .i64 (relayH m f m l 7), .int .i64 (relayH m f m l 8), .int .i64 (relayH m f m l 9), .int .i64 (relayH m f m l 10), .int .i64 (relayH m f m l 11)], .agg #[.int .i64 (relayF m f m l 0), .int .i64 (relayF m f m l 1)], .int .i64 0]) ∧ Below w.heap.size w w' := by
  obtain ⟨hok, hfit⟩ := Gate.wrong_of h
  have h38 := hok.1
  have h11 := hok.2.2.2.2.2
  have ht : Conf.tm m 2 = 2 * m := Conf.tm_yes (Conf.right_spec.2 h38)
  have CB := Lib.hid (fun w => refBlock_val m _ ht w)
  have CW := Lib.hid (fun w hl => refWrong_any m f va m l w hm hl)
  rw [relayH_yes h, relayF_yes h]
  rw [h] at CW
  have hport : Gate.port f l m = (f 11).toNat := by unfold Gate.port; rw [if_pos h0]
  have hPm : (f 11).toNat < m := by omega
  have HL := Lib.hid hl
  have H0 := Lib.hid h0
  have HW : Hid (Gate.way m f l m = if l ((f 11).toNat * 2) = 2 then 1 else 0) := by
    show Gate.way m f l m = _
    unfold Gate.way
    rw [if_pos h0]
  obtain ⟨p1, c1, rfl⟩ := hl.form
  have hI : f 11 < m := by omega
  have hI0 : 0 ≤ f 11 := h11.1
  clear hl h hok hfit ht h0 h11
  by_cases hk : l ((f 11).toNat * 2) = 2
  · have hway : Gate.way m f l m = 1 := by rw [HW.out, if_pos hk]
    obtain ⟨hg, hr⟩ := relay_info hway
    rw [hport] at hr
    have HG := Lib.hid hg
    have HQ0 : Hid (Gate.relayed m f l m 0 = l ((f 11).toNat * 2)) := hr 0
    have HQ1 : Hid (Gate.relayed m f l m 1 = l ((f 11).toNat * 2 + 1)) := hr 1
    have HK := Lib.hid hk
    rw [HQ0.out, HQ1.out, hk]
    generalize Gate.relay m f l m = g at *
    clear hway hg hr hport HW HQ0 HQ1 hk
    go_enter Try.func25, Try.ntmps25
    go_wp2_with fail
    have HX0 := Lib.hid (((Ints.box w f 24).alloc (.cells #[.int .i64 ((fun _ => (0 : Int)) 0), .int .i64 ((fun _ => (0 : Int)) 1), .int .i64 ((fun _ => (0 : Int)) 2), .int .i64 ((fun _ => (0 : Int)) 3), .int .i64 ((fun _ => (0 : Int)) 4), .int .i64 ((fun _ => (0 : Int)) 5), .int .i64 ((fun _ => (0 : Int)) 6), .int .i64 ((fun _ => (0 : Int)) 7), .int .i64 ((fun _ => (0 : Int)) 8), .int .i64 ((fun _ => (0 : Int)) 9), .int .i64 ((fun _ => (0 : Int)) 10), .int .i64 ((fun _ => (0 : Int)) 11)] 24)).alloc (.cells #[.int .i64 0, .int .i64 0] 33))
    have HZ0 := Lib.hid ((Ints.zeros (w.alloc (.cells #[.int .i64 (f 0), .int .i64 (f 1), .int .i64 (f 2), .int .i64 (f 3), .int .i64 (f 4), .int .i64 (f 5), .int .i64 (f 6), .int .i64 (f 7), .int .i64 (f 8), .int .i64 (f 9), .int .i64 (f 10), .int .i64 (f 11)] 24)) 24).alloc (.cells #[.int .i64 0, .int .i64 0] 33))
    have HF0 := Lib.hid (Ints.two ((w.alloc (.cells #[.int .i64 (f 0), .int .i64 (f 1), .int .i64 (f 2), .int .i64 (f 3), .int .i64 (f 4), .int .i64 (f 5), .int .i64 (f 6), .int .i64 (f 7), .int .i64 (f 8), .int .i64 (f 9), .int .i64 (f 10), .int .i64 (f 11)] 24)).alloc (.cells #[.int .i64 ((fun _ => (0 : Int)) 0), .int .i64 ((fun _ => (0 : Int)) 1), .int .i64 ((fun _ => (0 : Int)) 2), .int .i64 ((fun _ => (0 : Int)) 3), .int .i64 ((fun _ => (0 : Int)) 4), .int .i64 ((fun _ => (0 : Int)) 5), .int .i64 ((fun _ => (0 : Int)) 6), .int .i64 ((fun _ => (0 : Int)) 7), .int .i64 ((fun _ => (0 : Int)) 8), .int .i64 ((fun _ => (0 : Int)) 9), .int .i64 ((fun _ => (0 : Int)) 10), .int .i64 ((fun _ => (0 : Int)) 11)] 24)) 0 0 33 (fun _ => 0) rfl rfl)
    refine (CW.out _ (HL.out.below bel)).mono ?_
    rintro e w1 ⟨rfl, hb⟩
    have hz := hb.size
    (try simp only [World.size_alloc, World.heap_drewN, World.size_drew, World.size_setCell] at hz)
    have HB1 := Lib.hid (show Below w.heap.size w w1 from bel)
    have HX1 := Lib.hid (HX0.out.below hb)
    have HZ1 := Lib.hid (HZ0.out.below hb)
    have HF1 := Lib.hid (HF0.out.below hb)
    simp only [World.size_alloc] at HX1 HZ1 HF1
    clear hb HX0 HZ0 HF0
    have c10 := (HX1.out.2 10 (by decide)).1
    have c11 := (HX1.out.2 11 (by decide)).1
    have f10 := (HX1.out.2 10 (by decide)).2
    have hgt := H0.out
    obtain ⟨b1, o1, rfl, hl1, hc1⟩ := HL.out.some (by omega)
    have HC := Lib.hid hc1
    obtain ⟨k0, k1⟩ := two_cells hc1 HB1.out hPm
    rw [HK.out] at k0
    have hzx := HX1.out.1
    clear hc1
    go_wp2_with fail
    refine (CB.out _).mono ?_; rintro e w' ⟨rfl, rfl⟩
    go_upto_region 8 with fail
    generalize hw2 : World.setCell _ _ _ = w2
    have HX2 := Lib.hid (show Ints w2 w.heap.size 12 g from by rw [← hw2]; exact HX1.out.set 10 (2 * m) (by omega) _ HG.out)
    have HZ2 := Lib.hid (show Ints w2 (w.heap.size + 1) 12 (fun _ => 0) from by rw [← hw2]; exact HZ1.out.other _ _ _ (by omega))
    have HF2 := Lib.hid (show Ints w2 (w.heap.size + 1 + 1) 2 (fun _ => 0) from by rw [← hw2]; exact HF1.out.other _ _ _ (by omega))
    have HB2 := Lib.hid (show Below w.heap.size w w2 from by have := HB1.out; rw [← hw2]; exact bel)
    have E11 : Hid (g 11 = f 11) := by show g 11 = f 11; rw [HG.out 11, if_neg (by omega)]
    obtain ⟨k0, k1⟩ := two_cells HC.out HB2.out hPm
    rw [HK.out] at k0
    rw [← E11.out] at k0 k1 hI hI0
    clear hw2 HX1 HZ1 HF1 HB1 c10 c11 f10 hzx hgt
    have HX2_c0 := (HX2.out.2 0 (by decide)).1; have HX2_c1 := (HX2.out.2 1 (by decide)).1; have HX2_c2 := (HX2.out.2 2 (by decide)).1; have HX2_c3 := (HX2.out.2 3 (by decide)).1; have HX2_c4 := (HX2.out.2 4 (by decide)).1; have HX2_c5 := (HX2.out.2 5 (by decide)).1; have HX2_c6 := (HX2.out.2 6 (by decide)).1; have HX2_c7 := (HX2.out.2 7 (by decide)).1; have HX2_c8 := (HX2.out.2 8 (by decide)).1; have HX2_c9 := (HX2.out.2 9 (by decide)).1; have HX2_c10 := (HX2.out.2 10 (by decide)).1; have HX2_c11 := (HX2.out.2 11 (by decide)).1; have HX2_z := HX2.out.1
    have HZ2_r := HZ2.out.row12; have HZ2_c0 := (HZ2.out.2 0 (by decide)).1; have HZ2_f0 := (HZ2.out.2 0 (by decide)).2; have HZ2_c1 := (HZ2.out.2 1 (by decide)).1; have HZ2_f1 := (HZ2.out.2 1 (by decide)).2; have HZ2_c2 := (HZ2.out.2 2 (by decide)).1; have HZ2_f2 := (HZ2.out.2 2 (by decide)).2; have HZ2_c3 := (HZ2.out.2 3 (by decide)).1; have HZ2_f3 := (HZ2.out.2 3 (by decide)).2; have HZ2_c4 := (HZ2.out.2 4 (by decide)).1; have HZ2_f4 := (HZ2.out.2 4 (by decide)).2; have HZ2_c5 := (HZ2.out.2 5 (by decide)).1; have HZ2_f5 := (HZ2.out.2 5 (by decide)).2; have HZ2_c6 := (HZ2.out.2 6 (by decide)).1; have HZ2_f6 := (HZ2.out.2 6 (by decide)).2; have HZ2_c7 := (HZ2.out.2 7 (by decide)).1; have HZ2_f7 := (HZ2.out.2 7 (by decide)).2; have HZ2_c8 := (HZ2.out.2 8 (by decide)).1; have HZ2_f8 := (HZ2.out.2 8 (by decide)).2; have HZ2_c9 := (HZ2.out.2 9 (by decide)).1; have HZ2_f9 := (HZ2.out.2 9 (by decide)).2; have HZ2_c10 := (HZ2.out.2 10 (by decide)).1; have HZ2_f10 := (HZ2.out.2 10 (by decide)).2; have HZ2_c11 := (HZ2.out.2 11 (by decide)).1; have HZ2_f11 := (HZ2.out.2 11 (by decide)).2; have HZ2_z := HZ2.out.1
    obtain ⟨a0, b0⟩ := HF2.out.2 0 (by decide)
    obtain ⟨a1, b1'⟩ := HF2.out.2 1 (by decide)
    have ar := HF2.out.row2
    have az := HF2.out.1
    go_region
    all_goals
      have := HB2.out
      go_wp2
      rw [← E11.out]
      generalize hwf : World.drew _ = wf; have r1 : wf.rangeAt (w.heap.size + 1) 0 [.int .i64 ((g) 0), .int .i64 ((g) 1), .int .i64 ((g) 2), .int .i64 ((g) 3), .int .i64 ((g) 4), .int .i64 ((g) 5), .int .i64 ((g) 6), .int .i64 ((g) 7), .int .i64 ((g) 8), .int .i64 ((g) 9), .int .i64 ((g) 10), .int .i64 ((g) 11)] := (by rw [← hwf]; exact rng); have r2 : wf.rangeAt (w.heap.size + 1 + 1) 0 [.int .i64 (2), .int .i64 (l ((g 11).toNat * 2 + 1))] := (by rw [← hwf]; exact rng); have r3 : Below w.heap.size w wf := (by rw [← hwf]; exact bel); refine bodyPost_ret (ret_cell2_tmp Try.results25 (w.heap.size + 1) [.int .i64 ((g) 0), .int .i64 ((g) 1), .int .i64 ((g) 2), .int .i64 ((g) 3), .int .i64 ((g) 4), .int .i64 ((g) 5), .int .i64 ((g) 6), .int .i64 ((g) 7), .int .i64 ((g) 8), .int .i64 ((g) 9), .int .i64 ((g) 10), .int .i64 ((g) 11)] _ (w.heap.size + 1 + 1) [.int .i64 (2), .int .i64 (l ((g 11).toNat * 2 + 1))] _ rfl rfl r1 Try.underlying24 rfl (by kernel_rfl) r2 Try.underlying33 rfl (by kernel_rfl)) rfl ⟨rfl, r3⟩
  · have hway : Gate.way m f l m = 0 := by rw [HW.out, if_neg hk]
    obtain ⟨hg, hr⟩ := relay_none hway
    rw [hg, hr]
    have hk2 : (l ((f 11).toNat * 2) == 2) = false := by simp [hk]
    clear hway hg hr hport HW hk
    go_enter Try.func25, Try.ntmps25
    go_wp2_with fail
    have HX0 := Lib.hid (((Ints.box w f 24).alloc (.cells #[.int .i64 ((fun _ => (0 : Int)) 0), .int .i64 ((fun _ => (0 : Int)) 1), .int .i64 ((fun _ => (0 : Int)) 2), .int .i64 ((fun _ => (0 : Int)) 3), .int .i64 ((fun _ => (0 : Int)) 4), .int .i64 ((fun _ => (0 : Int)) 5), .int .i64 ((fun _ => (0 : Int)) 6), .int .i64 ((fun _ => (0 : Int)) 7), .int .i64 ((fun _ => (0 : Int)) 8), .int .i64 ((fun _ => (0 : Int)) 9), .int .i64 ((fun _ => (0 : Int)) 10), .int .i64 ((fun _ => (0 : Int)) 11)] 24)).alloc (.cells #[.int .i64 0, .int .i64 0] 33))
    have HZ0 := Lib.hid ((Ints.zeros (w.alloc (.cells #[.int .i64 (f 0), .int .i64 (f 1), .int .i64 (f 2), .int .i64 (f 3), .int .i64 (f 4), .int .i64 (f 5), .int .i64 (f 6), .int .i64 (f 7), .int .i64 (f 8), .int .i64 (f 9), .int .i64 (f 10), .int .i64 (f 11)] 24)) 24).alloc (.cells #[.int .i64 0, .int .i64 0] 33))
    have HF0 := Lib.hid (Ints.two ((w.alloc (.cells #[.int .i64 (f 0), .int .i64 (f 1), .int .i64 (f 2), .int .i64 (f 3), .int .i64 (f 4), .int .i64 (f 5), .int .i64 (f 6), .int .i64 (f 7), .int .i64 (f 8), .int .i64 (f 9), .int .i64 (f 10), .int .i64 (f 11)] 24)).alloc (.cells #[.int .i64 ((fun _ => (0 : Int)) 0), .int .i64 ((fun _ => (0 : Int)) 1), .int .i64 ((fun _ => (0 : Int)) 2), .int .i64 ((fun _ => (0 : Int)) 3), .int .i64 ((fun _ => (0 : Int)) 4), .int .i64 ((fun _ => (0 : Int)) 5), .int .i64 ((fun _ => (0 : Int)) 6), .int .i64 ((fun _ => (0 : Int)) 7), .int .i64 ((fun _ => (0 : Int)) 8), .int .i64 ((fun _ => (0 : Int)) 9), .int .i64 ((fun _ => (0 : Int)) 10), .int .i64 ((fun _ => (0 : Int)) 11)] 24)) 0 0 33 (fun _ => 0) rfl rfl)
    refine (CW.out _ (HL.out.below bel)).mono ?_
    rintro e w1 ⟨rfl, hb⟩
    have hz := hb.size
    (try simp only [World.size_alloc, World.heap_drewN, World.size_drew, World.size_setCell] at hz)
    have HB1 := Lib.hid (show Below w.heap.size w w1 from bel)
    have HX1 := Lib.hid (HX0.out.below hb)
    have HZ1 := Lib.hid (HZ0.out.below hb)
    have HF1 := Lib.hid (HF0.out.below hb)
    simp only [World.size_alloc] at HX1 HZ1 HF1
    clear hb HX0 HZ0 HF0
    have hgt := H0.out
    obtain ⟨b1, o1, rfl, hl1, hc1⟩ := HL.out.some (by omega)
    obtain ⟨k0, k1⟩ := two_cells hc1 HB1.out hPm
    clear hc1
    have HX1_c0 := (HX1.out.2 0 (by decide)).1; have HX1_c1 := (HX1.out.2 1 (by decide)).1; have HX1_c2 := (HX1.out.2 2 (by decide)).1; have HX1_c3 := (HX1.out.2 3 (by decide)).1; have HX1_c4 := (HX1.out.2 4 (by decide)).1; have HX1_c5 := (HX1.out.2 5 (by decide)).1; have HX1_c6 := (HX1.out.2 6 (by decide)).1; have HX1_c7 := (HX1.out.2 7 (by decide)).1; have HX1_c8 := (HX1.out.2 8 (by decide)).1; have HX1_c9 := (HX1.out.2 9 (by decide)).1; have HX1_c10 := (HX1.out.2 10 (by decide)).1; have HX1_c11 := (HX1.out.2 11 (by decide)).1; have HX1_z := HX1.out.1
    have HZ1_r := HZ1.out.row12; have HZ1_c0 := (HZ1.out.2 0 (by decide)).1; have HZ1_f0 := (HZ1.out.2 0 (by decide)).2; have HZ1_c1 := (HZ1.out.2 1 (by decide)).1; have HZ1_f1 := (HZ1.out.2 1 (by decide)).2; have HZ1_c2 := (HZ1.out.2 2 (by decide)).1; have HZ1_f2 := (HZ1.out.2 2 (by decide)).2; have HZ1_c3 := (HZ1.out.2 3 (by decide)).1; have HZ1_f3 := (HZ1.out.2 3 (by decide)).2; have HZ1_c4 := (HZ1.out.2 4 (by decide)).1; have HZ1_f4 := (HZ1.out.2 4 (by decide)).2; have HZ1_c5 := (HZ1.out.2 5 (by decide)).1; have HZ1_f5 := (HZ1.out.2 5 (by decide)).2; have HZ1_c6 := (HZ1.out.2 6 (by decide)).1; have HZ1_f6 := (HZ1.out.2 6 (by decide)).2; have HZ1_c7 := (HZ1.out.2 7 (by decide)).1; have HZ1_f7 := (HZ1.out.2 7 (by decide)).2; have HZ1_c8 := (HZ1.out.2 8 (by decide)).1; have HZ1_f8 := (HZ1.out.2 8 (by decide)).2; have HZ1_c9 := (HZ1.out.2 9 (by decide)).1; have HZ1_f9 := (HZ1.out.2 9 (by decide)).2; have HZ1_c10 := (HZ1.out.2 10 (by decide)).1; have HZ1_f10 := (HZ1.out.2 10 (by decide)).2; have HZ1_c11 := (HZ1.out.2 11 (by decide)).1; have HZ1_f11 := (HZ1.out.2 11 (by decide)).2; have HZ1_z := HZ1.out.1
    obtain ⟨a0, b0⟩ := HF1.out.2 0 (by decide)
    obtain ⟨a1, b1'⟩ := HF1.out.2 1 (by decide)
    have ar := HF1.out.row2
    have az := HF1.out.1
    have := HB1.out
    go_wp2
    generalize hwf : World.setCell _ _ _ = wf; have r1 : wf.rangeAt (w.heap.size + 1) 0 [.int .i64 ((f) 0), .int .i64 ((f) 1), .int .i64 ((f) 2), .int .i64 ((f) 3), .int .i64 ((f) 4), .int .i64 ((f) 5), .int .i64 ((f) 6), .int .i64 ((f) 7), .int .i64 ((f) 8), .int .i64 ((f) 9), .int .i64 ((f) 10), .int .i64 ((f) 11)] := (by rw [← hwf]; exact rng); have r2 : wf.rangeAt (w.heap.size + 1 + 1) 0 [.int .i64 (0), .int .i64 (0)] := (by rw [← hwf]; exact rng); have r3 : Below w.heap.size w wf := (by rw [← hwf]; exact bel); refine bodyPost_ret (ret_cell2_tmp Try.results25 (w.heap.size + 1) [.int .i64 ((f) 0), .int .i64 ((f) 1), .int .i64 ((f) 2), .int .i64 ((f) 3), .int .i64 ((f) 4), .int .i64 ((f) 5), .int .i64 ((f) 6), .int .i64 ((f) 7), .int .i64 ((f) 8), .int .i64 ((f) 9), .int .i64 ((f) 10), .int .i64 ((f) 11)] _ (w.heap.size + 1 + 1) [.int .i64 (0), .int .i64 (0)] _ rfl rfl r1 Try.underlying24 rfl (by kernel_rfl) r2 Try.underlying33 rfl (by kernel_rfl)) rfl ⟨rfl, r3⟩
end Go.Proofs.Ytkdmmomfolhfbaa
namespace Go.Proofs.Ytkdmmomfolhfbaa
set_option linter.unusedVariables false
set_option linter.unusedSimpArgs false
open Go.ChangeShapes Go.WideShapes Go.RowKit

theorem Ints.set10 {w : World} {b : Nat} {f : Nat → Int} (h : Ints w b 12 f) (g : Nat → Int) (x y : Int) : Ints (((((((((((w).setCell ⟨b, 0, none⟩ (.int .i64 (g 0))).setCell ⟨b, 1, none⟩ (.int .i64 (g 1))).setCell ⟨b, 2, none⟩ (.int .i64 (g 2))).setCell ⟨b, 3, none⟩ (.int .i64 (g 3))).setCell ⟨b, 4, none⟩ (.int .i64 (g 4))).setCell ⟨b, 5, none⟩ (.int .i64 (g 5))).setCell ⟨b, 6, none⟩ (.int .i64 (g 6))).setCell ⟨b, 7, none⟩ (.int .i64 (g 7))).setCell ⟨b, 8, none⟩ (.int .i64 x)).setCell ⟨b, 9, none⟩ (.int .i64 y)) b 12 (fun j => if j < 8 then g j else if j = 8 then x else if j = 9 then y else f j) := by
  refine Ints.like (Ints.set (Ints.set (Ints.set (Ints.set (Ints.set (Ints.set (Ints.set (Ints.set (Ints.set (Ints.set h 0 (g 0) (by decide) (fun j => if j = 0 then g 0 else f j) (fun j => rfl)) 1 (g 1) (by decide) (fun j => if j = 1 then g 1 else if j = 0 then g 0 else f j) (fun j => rfl)) 2 (g 2) (by decide) (fun j => if j = 2 then g 2 else if j = 1 then g 1 else if j = 0 then g 0 else f j) (fun j => rfl)) 3 (g 3) (by decide) (fun j => if j = 3 then g 3 else if j = 2 then g 2 else if j = 1 then g 1 else if j = 0 then g 0 else f j) (fun j => rfl)) 4 (g 4) (by decide) (fun j => if j = 4 then g 4 else if j = 3 then g 3 else if j = 2 then g 2 else if j = 1 then g 1 else if j = 0 then g 0 else f j) (fun j => rfl)) 5 (g 5) (by decide) (fun j => if j = 5 then g 5 else if j = 4 then g 4 else if j = 3 then g 3 else if j = 2 then g 2 else if j = 1 then g 1 else if j = 0 then g 0 else f j) (fun j => rfl)) 6 (g 6) (by decide) (fun j => if j = 6 then g 6 else if j = 5 then g 5 else if j = 4 then g 4 else if j = 3 then g 3 else if j = 2 then g 2 else if j = 1 then g 1 else if j = 0 then g 0 else f j) (fun j => rfl)) 7 (g 7) (by decide) (fun j => if j = 7 then g 7 else if j = 6 then g 6 else if j = 5 then g 5 else if j = 4 then g 4 else if j = 3 then g 3 else if j = 2 then g 2 else if j = 1 then g 1 else if j = 0 then g 0 else f j) (fun j => rfl)) 8 (x) (by decide) (fun j => if j = 8 then x else if j = 7 then g 7 else if j = 6 then g 6 else if j = 5 then g 5 else if j = 4 then g 4 else if j = 3 then g 3 else if j = 2 then g 2 else if j = 1 then g 1 else if j = 0 then g 0 else f j) (fun j => rfl)) 9 (y) (by decide) (fun j => if j = 9 then y else if j = 8 then x else if j = 7 then g 7 else if j = 6 then g 6 else if j = 5 then g 5 else if j = 4 then g 4 else if j = 3 then g 3 else if j = 2 then g 2 else if j = 1 then g 1 else if j = 0 then g 0 else f j) (fun j => rfl)) (fun j hj => ?_)
  rcases twelve hj with rfl | rfl | rfl | rfl | rfl | rfl | rfl | rfl | rfl | rfl | rfl | rfl <;> rfl
theorem Ints.other10 {w : World} {b' n : Nat} {f : Nat → Int} (h : Ints w b' n f) (b : Nat) (g : Nat → Int) (x y : Int) (hb : b ≠ b') : Ints (((((((((((w).setCell ⟨b, 0, none⟩ (.int .i64 (g 0))).setCell ⟨b, 1, none⟩ (.int .i64 (g 1))).setCell ⟨b, 2, none⟩ (.int .i64 (g 2))).setCell ⟨b, 3, none⟩ (.int .i64 (g 3))).setCell ⟨b, 4, none⟩ (.int .i64 (g 4))).setCell ⟨b, 5, none⟩ (.int .i64 (g 5))).setCell ⟨b, 6, none⟩ (.int .i64 (g 6))).setCell ⟨b, 7, none⟩ (.int .i64 (g 7))).setCell ⟨b, 8, none⟩ (.int .i64 x)).setCell ⟨b, 9, none⟩ (.int .i64 y)) b' n f :=
  ((((((((((h).other b 0 (.int .i64 (g 0)) hb).other b 1 (.int .i64 (g 1)) hb).other b 2 (.int .i64 (g 2)) hb).other b 3 (.int .i64 (g 3)) hb).other b 4 (.int .i64 (g 4)) hb).other b 5 (.int .i64 (g 5)) hb).other b 6 (.int .i64 (g 6)) hb).other b 7 (.int .i64 (g 7)) hb).other b 8 (.int .i64 (x)) hb).other b 9 (.int .i64 (y)) hb
theorem fresh_most {n : Int} (h : 3 ≤ n ∧ n ≤ 8) {j : Nat} (hj : j < 8) : Vote.fresh n j = Vote.most n j := by
  unfold Vote.fresh; rw [if_pos (Conf.right_spec.2 h), if_pos hj]
set_option maxHeartbeats 4000000 in
theorem refGRelay_young (m : Nat) (f : Nat → Int) (va : Value) (l : Nat → Int) (w : World) (hm : m ≤ maxLen) (hl : Prs w va m l) (h : Gate.wrong m f m l = 0) (h0 : ¬ 0 < f 10) (h9 : ¬ 2 * (m : Int) < f 9) :
    Calls Try.prog 25 #[.int .i64 m, .agg #[.int .i64 (f 0), .int .i64 (f 1), .int .i64 (f 2), .int .i64 (f 3), .int .i64 (f 4), .int .i64 (f 5), .int .i64 (f 6), .int .i64 (f 7), .int .i64 (f 8), .int .i64 (f 9), .int .i64 (f 10), .int .i64 (f 11)], va] w fun e w' => e = .returned (.tuple #[.agg #[.int .i64 (relayH m f m l 0), .int .i64 (relayH m f m l 1), .int .i64 (relayH m f m l 2), .int .i64 (relayH m f m l 3), .int .i64 (relayH m f m l 4), .int .i64 (relayH m f m l 5), .int .i64 (relayH m f m l 6), .int .i64 (relayH m f m l 7), .int .i64 (relayH m f m l 8), .int .i64 (relayH m f m l 9), .int .i64 (relayH m f m l 10), .int .i64 (relayH m f m l 11)], .agg #[.int .i64 (relayF m f m l 0), .int .i64 (relayF m f m l 1)], .int .i64 0]) ∧ Below w.heap.size w w' := by
  obtain ⟨hok, hfit⟩ := Gate.wrong_of h
  have h38 := hok.1
  have h10 := hok.2.2.2.2.1
  have e10 := Lib.hid (show f 10 = 0 by omega)
  have ht : Conf.tm m 2 = 2 * m := Conf.tm_yes (Conf.right_spec.2 h38)
  have CB := Lib.hid (fun w => refBlock_val m _ ht w)
  have CW := Lib.hid (fun w hl => refWrong_any m f va m l w hm hl)
  rw [relayH_yes h, relayF_yes h]
  rw [h] at CW
  have hway : Gate.way m f l m = 0 := by unfold Gate.way; rw [if_neg h0, if_neg h9]
  obtain ⟨hg, hr⟩ := relay_none hway
  rw [hg, hr]
  have HL := Lib.hid hl
  obtain ⟨p1, c1, rfl⟩ := hl.form
  have hm0 : (0 : Int) < m := by omega
  clear hl h hok hfit ht h0 hway hg hr h10
  · skip
    go_enter Try.func25, Try.ntmps25
    go_wp2_with fail
    have HX0 := Lib.hid (((Ints.box w f 24).alloc (.cells #[.int .i64 ((fun _ => (0 : Int)) 0), .int .i64 ((fun _ => (0 : Int)) 1), .int .i64 ((fun _ => (0 : Int)) 2), .int .i64 ((fun _ => (0 : Int)) 3), .int .i64 ((fun _ => (0 : Int)) 4), .int .i64 ((fun _ => (0 : Int)) 5), .int .i64 ((fun _ => (0 : Int)) 6), .int .i64 ((fun _ => (0 : Int)) 7), .int .i64 ((fun _ => (0 : Int)) 8), .int .i64 ((fun _ => (0 : Int)) 9), .int .i64 ((fun _ => (0 : Int)) 10), .int .i64 ((fun _ => (0 : Int)) 11)] 24)).alloc (.cells #[.int .i64 0, .int .i64 0] 33))
    have HZ0 := Lib.hid ((Ints.zeros (w.alloc (.cells #[.int .i64 (f 0), .int .i64 (f 1), .int .i64 (f 2), .int .i64 (f 3), .int .i64 (f 4), .int .i64 (f 5), .int .i64 (f 6), .int .i64 (f 7), .int .i64 (f 8), .int .i64 (f 9), .int .i64 (f 10), .int .i64 (f 11)] 24)) 24).alloc (.cells #[.int .i64 0, .int .i64 0] 33))
    have HF0 := Lib.hid (Ints.two ((w.alloc (.cells #[.int .i64 (f 0), .int .i64 (f 1), .int .i64 (f 2), .int .i64 (f 3), .int .i64 (f 4), .int .i64 (f 5), .int .i64 (f 6), .int .i64 (f 7), .int .i64 (f 8), .int .i64 (f 9), .int .i64 (f 10), .int .i64 (f 11)] 24)).alloc (.cells #[.int .i64 ((fun _ => (0 : Int)) 0), .int .i64 ((fun _ => (0 : Int)) 1), .int .i64 ((fun _ => (0 : Int)) 2), .int .i64 ((fun _ => (0 : Int)) 3), .int .i64 ((fun _ => (0 : Int)) 4), .int .i64 ((fun _ => (0 : Int)) 5), .int .i64 ((fun _ => (0 : Int)) 6), .int .i64 ((fun _ => (0 : Int)) 7), .int .i64 ((fun _ => (0 : Int)) 8), .int .i64 ((fun _ => (0 : Int)) 9), .int .i64 ((fun _ => (0 : Int)) 10), .int .i64 ((fun _ => (0 : Int)) 11)] 24)) 0 0 33 (fun _ => 0) rfl rfl)
    refine (CW.out _ (HL.out.below bel)).mono ?_
    rintro e w1 ⟨rfl, hb⟩
    have hz := hb.size
    (try simp only [World.size_alloc, World.heap_drewN, World.size_drew, World.size_setCell] at hz)
    have HB1 := Lib.hid (show Below w.heap.size w w1 from bel)
    have HX1 := Lib.hid (HX0.out.below hb)
    have HZ1 := Lib.hid (HZ0.out.below hb)
    have HF1 := Lib.hid (HF0.out.below hb)
    simp only [World.size_alloc] at HX1 HZ1 HF1
    clear hb HX0 HZ0 HF0
    have c10 := (HX1.out.2 10 (by decide)).1
    rw [e10.out] at c10
    go_upto_region 9 with fail
    clear c10
    go_wp2_with fail
    refine wp_loop_rounds 1 ?_
    rw [rounds_succ]
    have c9 := (HX1.out.2 9 (by decide)).1
    have hd9 : decide (2 * (m : Int) < f 9) = false := decide_eq_false (by omega)
    have hd0 : decide (0 < m) = true := decide_eq_true (by omega)
    go_upto_region 10 with fail
    go_quiet (first | with_reducible exact Calls.quiet_of_same (CB.out _))
    have HX2 := Lib.hid (HX1.out.drewN nq)
    have HZ2 := Lib.hid (HZ1.out.drewN nq)
    have HF2 := Lib.hid (HF1.out.drewN nq)
    have HB2 := Lib.hid (show Below w.heap.size w (w1.drewN nq) from by have := HB1.out; exact bel)
    clear c9
    generalize w1.drewN nq = w2 at *
    have HX2_c0 := (HX2.out.2 0 (by decide)).1; have HX2_c1 := (HX2.out.2 1 (by decide)).1; have HX2_c2 := (HX2.out.2 2 (by decide)).1; have HX2_c3 := (HX2.out.2 3 (by decide)).1; have HX2_c4 := (HX2.out.2 4 (by decide)).1; have HX2_c5 := (HX2.out.2 5 (by decide)).1; have HX2_c6 := (HX2.out.2 6 (by decide)).1; have HX2_c7 := (HX2.out.2 7 (by decide)).1; have HX2_c8 := (HX2.out.2 8 (by decide)).1; have HX2_c9 := (HX2.out.2 9 (by decide)).1; have HX2_c10 := (HX2.out.2 10 (by decide)).1; have HX2_c11 := (HX2.out.2 11 (by decide)).1; have HX2_z := HX2.out.1
    have HZ2_r := HZ2.out.row12; have HZ2_c0 := (HZ2.out.2 0 (by decide)).1; have HZ2_f0 := (HZ2.out.2 0 (by decide)).2; have HZ2_c1 := (HZ2.out.2 1 (by decide)).1; have HZ2_f1 := (HZ2.out.2 1 (by decide)).2; have HZ2_c2 := (HZ2.out.2 2 (by decide)).1; have HZ2_f2 := (HZ2.out.2 2 (by decide)).2; have HZ2_c3 := (HZ2.out.2 3 (by decide)).1; have HZ2_f3 := (HZ2.out.2 3 (by decide)).2; have HZ2_c4 := (HZ2.out.2 4 (by decide)).1; have HZ2_f4 := (HZ2.out.2 4 (by decide)).2; have HZ2_c5 := (HZ2.out.2 5 (by decide)).1; have HZ2_f5 := (HZ2.out.2 5 (by decide)).2; have HZ2_c6 := (HZ2.out.2 6 (by decide)).1; have HZ2_f6 := (HZ2.out.2 6 (by decide)).2; have HZ2_c7 := (HZ2.out.2 7 (by decide)).1; have HZ2_f7 := (HZ2.out.2 7 (by decide)).2; have HZ2_c8 := (HZ2.out.2 8 (by decide)).1; have HZ2_f8 := (HZ2.out.2 8 (by decide)).2; have HZ2_c9 := (HZ2.out.2 9 (by decide)).1; have HZ2_f9 := (HZ2.out.2 9 (by decide)).2; have HZ2_c10 := (HZ2.out.2 10 (by decide)).1; have HZ2_f10 := (HZ2.out.2 10 (by decide)).2; have HZ2_c11 := (HZ2.out.2 11 (by decide)).1; have HZ2_f11 := (HZ2.out.2 11 (by decide)).2; have HZ2_z := HZ2.out.1
    obtain ⟨a0, b0⟩ := HF2.out.2 0 (by decide)
    obtain ⟨a1, b1'⟩ := HF2.out.2 1 (by decide)
    have ar := HF2.out.row2
    have az := HF2.out.1
    have := HB2.out
    go_wp2
    generalize hwf : World.setCell _ _ _ = wf; have r1 : wf.rangeAt (w.heap.size + 1) 0 [.int .i64 ((f) 0), .int .i64 ((f) 1), .int .i64 ((f) 2), .int .i64 ((f) 3), .int .i64 ((f) 4), .int .i64 ((f) 5), .int .i64 ((f) 6), .int .i64 ((f) 7), .int .i64 ((f) 8), .int .i64 ((f) 9), .int .i64 ((f) 10), .int .i64 ((f) 11)] := (by rw [← hwf]; exact rng); have r2 : wf.rangeAt (w.heap.size + 1 + 1) 0 [.int .i64 (0), .int .i64 (0)] := (by rw [← hwf]; exact rng); have r3 : Below w.heap.size w wf := (by rw [← hwf]; exact bel); refine bodyPost_ret (ret_cell2_tmp Try.results25 (w.heap.size + 1) [.int .i64 ((f) 0), .int .i64 ((f) 1), .int .i64 ((f) 2), .int .i64 ((f) 3), .int .i64 ((f) 4), .int .i64 ((f) 5), .int .i64 ((f) 6), .int .i64 ((f) 7), .int .i64 ((f) 8), .int .i64 ((f) 9), .int .i64 ((f) 10), .int .i64 ((f) 11)] _ (w.heap.size + 1 + 1) [.int .i64 (0), .int .i64 (0)] _ rfl rfl r1 Try.underlying24 rfl (by kernel_rfl) r2 Try.underlying33 rfl (by kernel_rfl)) rfl ⟨rfl, r3⟩
end Go.Proofs.Ytkdmmomfolhfbaa
