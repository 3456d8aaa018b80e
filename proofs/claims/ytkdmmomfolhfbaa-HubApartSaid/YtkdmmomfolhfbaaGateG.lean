
import Derived.Test.YtkdmmomfolhfbaaRows
import Derived.Test.YtkdmmomfolhfbaaGateY
namespace Go.Proofs.Ytkdmmomfolhfbaa
set_option linter.unusedVariables false
set_option linter.unusedSimpArgs false
open Go.ChangeShapes Go.WideShapes Go.RowKit

theorem way_cs {m : Nat} {f l : Nat → Int} {K : Nat} (h0 : ¬ 0 < f 10) (h9 : 2 * (m : Int) < f 9) (hK : K < m) (hk : l (K * 2) = 1) (hno : ∀ p, p < K → l (p * 2) ≠ 1) : Gate.way m f l m = 2 ∧ Gate.port f l m = K := by
  have e := first_at (l := l) (m := m) (K := K) (d := m) (Nat.le_refl _) hK (by omega) hk hno
  unfold Gate.way Gate.port
  rw [if_neg h0, if_neg h0, if_pos h9, e, if_pos hK]
  exact ⟨rfl, rfl⟩
theorem way_no {m : Nat} {f l : Nat → Int} (h0 : ¬ 0 < f 10) (h9 : 2 * (m : Int) < f 9) (hno : ∀ p, p < m → l (p * 2) ≠ 1) : Gate.way m f l m = 0 := by
  have e := first_none (l := l) (m := m) (d := m) (Nat.le_refl _) hno
  unfold Gate.way
  rw [if_neg h0, if_pos h9, e, if_neg (by omega)]
set_option maxHeartbeats 8000000 in
theorem refGRelay_old (m : Nat) (f : Nat → Int) (va : Value) (l : Nat → Int) (w : World) (hm : m ≤ maxLen) (hl : Prs w va m l) (h : Gate.wrong m f m l = 0) (h0 : ¬ 0 < f 10) (h9 : 2 * (m : Int) < f 9) :
    Calls Try.prog 25 #[.int .i64 m, .agg #[.int .i64 (f 0), .int .i64 (f 1), .int .i64 (f 2), .int .i64 (f 3), .int .i64 (f 4), .int .i64 (f 5), .int .i64 (f 6), .int .i64 (f 7), .int .i64 (f 8), .int .i64 (f 9), .int .i64 (f 10), .int .i64 (f 11)], va] w fun e w' => e = .returned (.tuple #[.agg #[.int .i64 (relayH m f m l 0), .int .i64 (relayH m f m l 1), .int .i64 (relayH m f m l 2), .int .i64 (relayH m f m l 3), .int .i64 (relayH m f m l 4), .int .i64 (relayH m f m l 5), .int .i64 (relayH m f m l 6), .int .i64 (relayH m f m l 7), .int .i64 (relayH m f m l 8), .int .i64 (relayH m f m l 9), .int .i64 (relayH m f m l 10), .int .i64 (relayH m f m l 11)], .agg #[.int .i64 (relayF m f m l 0), .int .i64 (relayF m f m l 1)], .int .i64 0]) ∧ Below w.heap.size w w' := by
  obtain ⟨hok, hfit⟩ := Gate.wrong_of h
  have h38 := hok.1
  have h10 := hok.2.2.2.2.1
  have e10 := Lib.hid (show f 10 = 0 by omega)
  have ht : Conf.tm m 2 = 2 * m := Conf.tm_yes (Conf.right_spec.2 h38)
  have CB := Lib.hid (fun w => refBlock_val m _ ht w)
  have CF := Lib.hid (fun w => refVFresh_any m w)
  rw [Vote.err_yes (Conf.right_spec.2 h38)] at CF
  have CW := Lib.hid (fun w hl => refWrong_any m f va m l w hm hl)
  rw [relayH_yes h, relayF_yes h]
  rw [h] at CW
  have HWC := Lib.hid (fun K hK hk hno => way_cs (f := f) (l := l) (K := K) h0 h9 hK hk hno)
  have HWN := Lib.hid (fun hno => way_no (f := f) (l := l) h0 h9 hno)
  have HFM := Lib.hid (fun j hj => fresh_most (n := m) h38 (j := j) hj)
  have HRC := Lib.hid (fun hw => relay_cs (n := m) (f := f) (l := l) (m := m) hw)
  have HRN := Lib.hid (fun hw => relay_none (n := m) (f := f) (l := l) (m := m) hw)
  have HL := Lib.hid hl
  obtain ⟨p1, c1, rfl⟩ := hl.form
  have hm0 : (0 : Int) < m := by omega
  generalize Gate.relay m f l m = g at *
  generalize Gate.relayed m f l m = rf at *
  clear hl h hok hfit ht h0 h10
  go_enter Try.func25, Try.ntmps25
  go_wp2_with fail
  have HX0 := Lib.hid (((Ints.box w f 24).alloc (.cells #[.int .i64 ((fun _ => (0 : Int)) 0), .int .i64 ((fun _ => (0 : Int)) 1), .int .i64 ((fun _ => (0 : Int)) 2), .int .i64 ((fun _ => (0 : Int)) 3), .int .i64 ((fun _ => (0 : Int)) 4), .int .i64 ((fun _ => (0 : Int)) 5), .int .i64 ((fun _ => (0 : Int)) 6), .int .i64 ((fun _ => (0 : Int)) 7), .int .i64 ((fun _ => (0 : Int)) 8), .int .i64 ((fun _ => (0 : Int)) 9), .int .i64 ((fun _ => (0 : Int)) 10), .int .i64 ((fun _ => (0 : Int)) 11)] 24)).alloc (.cells #[.int .i64 0, .int .i64 0] 33))
  have HZ0 := Lib.hid ((Ints.zeros (w.alloc (.cells #[.int .i64 (f 0), .int .i64 (f 1), .int .i64 (f 2), .int .i64 (f 3), .int .i64 (f 4), .int .i64 (f 5), .int .i64 (f 6), .int .i64 (f 7), .int .i64 (f 8), .int .i64 (f 9), .int .i64 (f 10), .int .i64 (f 11)] 24)) 24).alloc (.cells #[.int .i64 0, .int .i64 0] 33))
  have HF0 := Lib.hid (Ints.two ((w.alloc (.cells #[.int .i64 (f 0), .int .i64 (f 1), .int .i64 (f 2), .int .i64 (f 3), .int .i64 (f 4), .int .i64 (f 5), .int .i64 (f 6), .int .i64 (f 7), .int .i64 (f 8), .int .i64 (f 9), .int .i64 (f 10), .int .i64 (f 11)] 24)).alloc (.cells #[.int .i64 ((fun _ => (0 : Int)) 0), .int .i64 ((fun _ => (0 : Int)) 1), .int .i64 ((fun _ => (0 : Int)) 2), .int .i64 ((fun _ => (0 : Int)) 3), .int .i64 ((fun _ => (0 : Int)) 4), .int .i64 ((fun _ => (0 : Int)) 5), .int .i64 ((fun _ => (0 : Int)) 6), .int .i64 ((fun _ => (0 : Int)) 7), .int .i64 ((fun _ => (0 : Int)) 8), .int .i64 ((fun _ => (0 : Int)) 9), .int .i64 ((fun _ => (0 : Int)) 10), .int .i64 ((fun _ => (0 : Int)) 11)] 24)) 0 0 33 (fun _ => 0) rfl rfl)
  refine (CW.out _ (HL.out.below bel)).mono ?_
  rintro e w1 ⟨rfl, hb⟩
  have hz := hb.size
  (try simp only [World.size_alloc, World.heap_drewN, World.size_drew, World.size_setCell] at hz)
  have HB1 := Lib.hid (show Below w.heap.size w w1 from bel)
  have HX1 := Lib.hid (HX0.out.below hb)
  have HZ1 := Lib.hid (HZ0.out.below hb)
  have HF1 := Lib.hid (HF0.out.below hb)
  simp only [World.size_alloc] at HX1 HZ1 HF1
  clear hb HX0 HZ0 HF0
  have c10 := (HX1.out.2 10 (by decide)).1
  rw [e10.out] at c10
  go_upto_region 9 with fail
  clear c10
  go_wp2_with fail
  go_loopw [10] (fun k wr => ∃ K : Nat, K ≤ m ∧ k = .int .i64 K ∧ Ints wr w.heap.size 12 f ∧ Ints wr (w.heap.size + 1) 12 (fun _ => 0) ∧ Ints wr (w.heap.size + 1 + 1) 2 (fun _ => 0) ∧ Below w.heap.size w wr ∧ ∀ p, p < K → l (p * 2) ≠ 1) (fun k _ => m - (intOf k).toNat)
  case atStart => exact ⟨0, by omega, rfl, HX1.out, HZ1.out, HF1.out, HB1.out, fun p hp => by omega⟩
  case round =>
    clear HX1 HZ1 HF1 HB1
    obtain ⟨K, hK, rfl, hX, hZ, hF, hb, hno⟩ := hrel
    have HB := Lib.hid hb
    have HX := Lib.hid hX
    have HZ := Lib.hid hZ
    have HF := Lib.hid hF
    have HNO := Lib.hid hno
    clear hX hZ hF hb hno
    have c9 := (HX.out.2 9 (by decide)).1
    by_cases hlt : K < m
    · have h1 : (K : Int) < m := by omega
      have h00 : (0 : Int) ≤ K := by omega
      have hd9 : decide (2 * (m : Int) < f 9) = true := decide_eq_true h9
      have hd0 : decide (K < m) = true := decide_eq_true hlt
      go_upto_region 10 with fail
      go_quiet (first | with_reducible exact Calls.quiet_of_same (CB.out _))
      have HX2 := Lib.hid (HX.out.drewN nq)
      have HZ2 := Lib.hid (HZ.out.drewN nq)
      have HF2 := Lib.hid (HF.out.drewN nq)
      have HB2 := Lib.hid (show Below w.heap.size w (wr.drewN nq) from by have := HB.out; exact bel)
      clear c9 HX HZ HF HB
      generalize wr.drewN nq = w2 at *
      obtain ⟨b1, o1, rfl, hl1, hc1⟩ := HL.out.some (by omega)
      have HC := Lib.hid hc1
      obtain ⟨k0, k1⟩ := two_cells hc1 HB2.out hlt
      clear hc1
      by_cases hk : l (K * 2) = 1
      · obtain ⟨hway, hport⟩ := HWC.out K hlt hk HNO.out
        obtain ⟨hg, hr⟩ := HRC.out hway
        rw [hport] at hg hr
        have HG := Lib.hid hg
        have HQ0 : Hid (rf 0 = 1) := by show rf 0 = 1; rw [hr 0]; exact hk
        have HQ1 : Hid (rf 1 = l (K * 2 + 1)) := hr 1
        rw [hk] at k0
        have HK := Lib.hid hk
        clear hway hport hg hr hk
        go_wp2_with fail
        refine (CF.out _).mono ?_; rintro e w3 ⟨rfl, hb⟩; have hz := hb.size; (try simp only [World.size_alloc, World.heap_drewN, World.size_drew, World.size_setCell] at hz)
        have HB3 := Lib.hid (show Below w.heap.size w w3 from by have := HB2.out; exact bel)
        have HX3 := Lib.hid (HX2.out.below hb)
        have HZ3 := Lib.hid (HZ2.out.below hb)
        have HF3 := Lib.hid (HF2.out.below hb)
        clear hb HX2 HZ2 HF2 HB2 k0 k1
        have HX3_r := HX3.out.row12; have HX3_c0 := (HX3.out.2 0 (by decide)).1; have HX3_f0 := (HX3.out.2 0 (by decide)).2; have HX3_c1 := (HX3.out.2 1 (by decide)).1; have HX3_f1 := (HX3.out.2 1 (by decide)).2; have HX3_c2 := (HX3.out.2 2 (by decide)).1; have HX3_f2 := (HX3.out.2 2 (by decide)).2; have HX3_c3 := (HX3.out.2 3 (by decide)).1; have HX3_f3 := (HX3.out.2 3 (by decide)).2; have HX3_c4 := (HX3.out.2 4 (by decide)).1; have HX3_f4 := (HX3.out.2 4 (by decide)).2; have HX3_c5 := (HX3.out.2 5 (by decide)).1; have HX3_f5 := (HX3.out.2 5 (by decide)).2; have HX3_c6 := (HX3.out.2 6 (by decide)).1; have HX3_f6 := (HX3.out.2 6 (by decide)).2; have HX3_c7 := (HX3.out.2 7 (by decide)).1; have HX3_f7 := (HX3.out.2 7 (by decide)).2; have HX3_c8 := (HX3.out.2 8 (by decide)).1; have HX3_f8 := (HX3.out.2 8 (by decide)).2; have HX3_c9 := (HX3.out.2 9 (by decide)).1; have HX3_f9 := (HX3.out.2 9 (by decide)).2; have HX3_c10 := (HX3.out.2 10 (by decide)).1; have HX3_f10 := (HX3.out.2 10 (by decide)).2; have HX3_c11 := (HX3.out.2 11 (by decide)).1; have HX3_f11 := (HX3.out.2 11 (by decide)).2; have HX3_z := HX3.out.1
        go_upto_region 15 with fail
        generalize hw5 : World.alloc _ _ = w5
        have HX5 := Lib.hid (show Ints w5 w.heap.size 12 g from by
          rw [← hw5]
          refine ((HX3.out.set10 (Vote.fresh m) K 0).alloc _).like (fun j hj => ?_)
          rw [HG.out j]
          by_cases h8 : j < 8
          · rw [if_pos h8, if_pos h8, HFM.out j h8]
          · rw [if_neg h8, if_neg h8])
        have HZ5 := Lib.hid (show Ints w5 (w.heap.size + 1) 12 (fun _ => 0) from by rw [← hw5]; exact (HZ3.out.other10 _ (Vote.fresh m) K 0 (by omega)).alloc _)
        have HF5 := Lib.hid (show Ints w5 (w.heap.size + 1 + 1) 2 (fun _ => 0) from by rw [← hw5]; exact (HF3.out.other10 _ (Vote.fresh m) K 0 (by omega)).alloc _)
        have HB5 := Lib.hid (show Below w.heap.size w w5 from by have := HB3.out; rw [← hw5]; exact bel)
        clear hw5 HX3 HZ3 HF3 HB3 HX3_r HX3_f0 HX3_f1 HX3_f2 HX3_f3 HX3_f4 HX3_f5 HX3_f6 HX3_f7 HX3_f8 HX3_f9 HX3_f10 HX3_f11
        clear HX3_c0 HX3_c1 HX3_c2 HX3_c3 HX3_c4 HX3_c5 HX3_c6 HX3_c7 HX3_c8 HX3_c9 HX3_c10 HX3_c11 HX3_z
        obtain ⟨k0, k1⟩ := two_cells HC.out HB5.out hlt
        rw [HK.out] at k0
        have HX5_c0 := (HX5.out.2 0 (by decide)).1; have HX5_c1 := (HX5.out.2 1 (by decide)).1; have HX5_c2 := (HX5.out.2 2 (by decide)).1; have HX5_c3 := (HX5.out.2 3 (by decide)).1; have HX5_c4 := (HX5.out.2 4 (by decide)).1; have HX5_c5 := (HX5.out.2 5 (by decide)).1; have HX5_c6 := (HX5.out.2 6 (by decide)).1; have HX5_c7 := (HX5.out.2 7 (by decide)).1; have HX5_c8 := (HX5.out.2 8 (by decide)).1; have HX5_c9 := (HX5.out.2 9 (by decide)).1; have HX5_c10 := (HX5.out.2 10 (by decide)).1; have HX5_c11 := (HX5.out.2 11 (by decide)).1; have HX5_z := HX5.out.1
        have HZ5_r := HZ5.out.row12; have HZ5_c0 := (HZ5.out.2 0 (by decide)).1; have HZ5_f0 := (HZ5.out.2 0 (by decide)).2; have HZ5_c1 := (HZ5.out.2 1 (by decide)).1; have HZ5_f1 := (HZ5.out.2 1 (by decide)).2; have HZ5_c2 := (HZ5.out.2 2 (by decide)).1; have HZ5_f2 := (HZ5.out.2 2 (by decide)).2; have HZ5_c3 := (HZ5.out.2 3 (by decide)).1; have HZ5_f3 := (HZ5.out.2 3 (by decide)).2; have HZ5_c4 := (HZ5.out.2 4 (by decide)).1; have HZ5_f4 := (HZ5.out.2 4 (by decide)).2; have HZ5_c5 := (HZ5.out.2 5 (by decide)).1; have HZ5_f5 := (HZ5.out.2 5 (by decide)).2; have HZ5_c6 := (HZ5.out.2 6 (by decide)).1; have HZ5_f6 := (HZ5.out.2 6 (by decide)).2; have HZ5_c7 := (HZ5.out.2 7 (by decide)).1; have HZ5_f7 := (HZ5.out.2 7 (by decide)).2; have HZ5_c8 := (HZ5.out.2 8 (by decide)).1; have HZ5_f8 := (HZ5.out.2 8 (by decide)).2; have HZ5_c9 := (HZ5.out.2 9 (by decide)).1; have HZ5_f9 := (HZ5.out.2 9 (by decide)).2; have HZ5_c10 := (HZ5.out.2 10 (by decide)).1; have HZ5_f10 := (HZ5.out.2 10 (by decide)).2; have HZ5_c11 := (HZ5.out.2 11 (by decide)).1; have HZ5_f11 := (HZ5.out.2 11 (by decide)).2; have HZ5_z := HZ5.out.1
        obtain ⟨a0, b0⟩ := HF5.out.2 0 (by decide)
        obtain ⟨a1, b1'⟩ := HF5.out.2 1 (by decide)
        have ar := HF5.out.row2
        have az := HF5.out.1
        go_region
        all_goals
          have := HB5.out
          go_wp2
          rw [HQ0.out, HQ1.out]
          generalize hwf : World.drew _ = wf; have r1 : wf.rangeAt (w.heap.size + 1) 0 [.int .i64 ((g) 0), .int .i64 ((g) 1), .int .i64 ((g) 2), .int .i64 ((g) 3), .int .i64 ((g) 4), .int .i64 ((g) 5), .int .i64 ((g) 6), .int .i64 ((g) 7), .int .i64 ((g) 8), .int .i64 ((g) 9), .int .i64 ((g) 10), .int .i64 ((g) 11)] := (by rw [← hwf]; exact rng); have r2 : wf.rangeAt (w.heap.size + 1 + 1) 0 [.int .i64 (1), .int .i64 (l (K * 2 + 1))] := (by rw [← hwf]; exact rng); have r3 : Below w.heap.size w wf := (by rw [← hwf]; exact bel); refine bodyPost_ret (ret_cell2_tmp Try.results25 (w.heap.size + 1) [.int .i64 ((g) 0), .int .i64 ((g) 1), .int .i64 ((g) 2), .int .i64 ((g) 3), .int .i64 ((g) 4), .int .i64 ((g) 5), .int .i64 ((g) 6), .int .i64 ((g) 7), .int .i64 ((g) 8), .int .i64 ((g) 9), .int .i64 ((g) 10), .int .i64 ((g) 11)] _ (w.heap.size + 1 + 1) [.int .i64 (1), .int .i64 (l (K * 2 + 1))] _ rfl rfl r1 Try.underlying24 rfl (by kernel_rfl) r2 Try.underlying33 rfl (by kernel_rfl)) rfl ⟨rfl, r3⟩
      · have hk2 : (l (K * 2) == 1) = false := by simp [hk]
        have HK := Lib.hid hk
        clear hk
        go_wp2
        go_roundw
        case rel =>
          refine ⟨K + 1, by omega, by go_num, HX2.out, HZ2.out, HF2.out, HB2.out, fun p hp => ?_⟩
          by_cases e : p = K
          · subst e; exact HK.out
          · exact HNO.out p (by omega)
        case measure => simp [intOf]; omega
    · obtain rfl : K = m := by omega
      obtain ⟨hg, hr⟩ := HRN.out (HWN.out HNO.out)
      have HG := Lib.hid hg
      have HR := Lib.hid hr
      clear hg hr
      have hd9 : decide (2 * (K : Int) < f 9) = true := decide_eq_true h9
      have hd0 : decide (K < K) = false := decide_eq_false (by omega)
      go_upto_region 10 with fail
      go_quiet (first | with_reducible exact Calls.quiet_of_same (CB.out _))
      have HX2 := Lib.hid (show Ints (wr.drewN nq) w.heap.size 12 g from by rw [HG.out]; exact HX.out.drewN nq)
      have HZ2 := Lib.hid (HZ.out.drewN nq)
      have HF2 := Lib.hid (HF.out.drewN nq)
      have HB2 := Lib.hid (show Below w.heap.size w (wr.drewN nq) from by have := HB.out; exact bel)
      have HR0 : Hid (rf 0 = 0) := by show rf 0 = 0; rw [HR.out]
      have HR1 : Hid (rf 1 = 0) := by show rf 1 = 0; rw [HR.out]
      clear c9 HX HZ HF HB
      generalize wr.drewN nq = w2 at *
      have HX2_c0 := (HX2.out.2 0 (by decide)).1; have HX2_c1 := (HX2.out.2 1 (by decide)).1; have HX2_c2 := (HX2.out.2 2 (by decide)).1; have HX2_c3 := (HX2.out.2 3 (by decide)).1; have HX2_c4 := (HX2.out.2 4 (by decide)).1; have HX2_c5 := (HX2.out.2 5 (by decide)).1; have HX2_c6 := (HX2.out.2 6 (by decide)).1; have HX2_c7 := (HX2.out.2 7 (by decide)).1; have HX2_c8 := (HX2.out.2 8 (by decide)).1; have HX2_c9 := (HX2.out.2 9 (by decide)).1; have HX2_c10 := (HX2.out.2 10 (by decide)).1; have HX2_c11 := (HX2.out.2 11 (by decide)).1; have HX2_z := HX2.out.1
      have HZ2_r := HZ2.out.row12; have HZ2_c0 := (HZ2.out.2 0 (by decide)).1; have HZ2_f0 := (HZ2.out.2 0 (by decide)).2; have HZ2_c1 := (HZ2.out.2 1 (by decide)).1; have HZ2_f1 := (HZ2.out.2 1 (by decide)).2; have HZ2_c2 := (HZ2.out.2 2 (by decide)).1; have HZ2_f2 := (HZ2.out.2 2 (by decide)).2; have HZ2_c3 := (HZ2.out.2 3 (by decide)).1; have HZ2_f3 := (HZ2.out.2 3 (by decide)).2; have HZ2_c4 := (HZ2.out.2 4 (by decide)).1; have HZ2_f4 := (HZ2.out.2 4 (by decide)).2; have HZ2_c5 := (HZ2.out.2 5 (by decide)).1; have HZ2_f5 := (HZ2.out.2 5 (by decide)).2; have HZ2_c6 := (HZ2.out.2 6 (by decide)).1; have HZ2_f6 := (HZ2.out.2 6 (by decide)).2; have HZ2_c7 := (HZ2.out.2 7 (by decide)).1; have HZ2_f7 := (HZ2.out.2 7 (by decide)).2; have HZ2_c8 := (HZ2.out.2 8 (by decide)).1; have HZ2_f8 := (HZ2.out.2 8 (by decide)).2; have HZ2_c9 := (HZ2.out.2 9 (by decide)).1; have HZ2_f9 := (HZ2.out.2 9 (by decide)).2; have HZ2_c10 := (HZ2.out.2 10 (by decide)).1; have HZ2_f10 := (HZ2.out.2 10 (by decide)).2; have HZ2_c11 := (HZ2.out.2 11 (by decide)).1; have HZ2_f11 := (HZ2.out.2 11 (by decide)).2; have HZ2_z := HZ2.out.1
      obtain ⟨a0, b0⟩ := HF2.out.2 0 (by decide)
      obtain ⟨a1, b1'⟩ := HF2.out.2 1 (by decide)
      have ar := HF2.out.row2
      have az := HF2.out.1
      have := HB2.out
      go_wp2
      rw [HR0.out, HR1.out]
      generalize hwf : World.setCell _ _ _ = wf; have r1 : wf.rangeAt (w.heap.size + 1) 0 [.int .i64 ((g) 0), .int .i64 ((g) 1), .int .i64 ((g) 2), .int .i64 ((g) 3), .int .i64 ((g) 4), .int .i64 ((g) 5), .int .i64 ((g) 6), .int .i64 ((g) 7), .int .i64 ((g) 8), .int .i64 ((g) 9), .int .i64 ((g) 10), .int .i64 ((g) 11)] := (by rw [← hwf]; exact rng); have r2 : wf.rangeAt (w.heap.size + 1 + 1) 0 [.int .i64 (0), .int .i64 (0)] := (by rw [← hwf]; exact rng); have r3 : Below w.heap.size w wf := (by rw [← hwf]; exact bel); refine bodyPost_ret (ret_cell2_tmp Try.results25 (w.heap.size + 1) [.int .i64 ((g) 0), .int .i64 ((g) 1), .int .i64 ((g) 2), .int .i64 ((g) 3), .int .i64 ((g) 4), .int .i64 ((g) 5), .int .i64 ((g) 6), .int .i64 ((g) 7), .int .i64 ((g) 8), .int .i64 ((g) 9), .int .i64 ((g) 10), .int .i64 ((g) 11)] _ (w.heap.size + 1 + 1) [.int .i64 (0), .int .i64 (0)] _ rfl rfl r1 Try.underlying24 rfl (by kernel_rfl) r2 Try.underlying33 rfl (by kernel_rfl)) rfl ⟨rfl, r3⟩
theorem refGRelay_any (n : Int) (f : Nat → Int) (va : Value) (m : Nat) (l : Nat → Int) (w : World) (hm : m ≤ maxLen) (hl : Prs w va m l) :
    Calls Try.prog 25 #[.int .i64 n, .agg #[.int .i64 (f 0), .int .i64 (f 1), .int .i64 (f 2), .int .i64 (f 3), .int .i64 (f 4), .int .i64 (f 5), .int .i64 (f 6), .int .i64 (f 7), .int .i64 (f 8), .int .i64 (f 9), .int .i64 (f 10), .int .i64 (f 11)], va] w fun e w' => e = .returned (.tuple #[.agg #[.int .i64 (relayH n f m l 0), .int .i64 (relayH n f m l 1), .int .i64 (relayH n f m l 2), .int .i64 (relayH n f m l 3), .int .i64 (relayH n f m l 4), .int .i64 (relayH n f m l 5), .int .i64 (relayH n f m l 6), .int .i64 (relayH n f m l 7), .int .i64 (relayH n f m l 8), .int .i64 (relayH n f m l 9), .int .i64 (relayH n f m l 10), .int .i64 (relayH n f m l 11)], .agg #[.int .i64 (relayF n f m l 0), .int .i64 (relayF n f m l 1)], .int .i64 (Gate.wrong n f m l)]) ∧ Below w.heap.size w w' := by
  by_cases h : Gate.wrong n f m l = 0
  · obtain ⟨-, hfit⟩ := Gate.wrong_of h
    have hmn := hfit.2.1
    subst hmn
    rw [h]
    by_cases h0 : 0 < f 10
    · exact refGRelay_hold m f va l w hm hl h h0
    · by_cases h9 : 2 * (m : Int) < f 9
      · exact refGRelay_old m f va l w hm hl h h0 h9
      · exact refGRelay_young m f va l w hm hl h h0 h9
  · exact refGRelay_no n f va m l w hm hl h
end Go.Proofs.Ytkdmmomfolhfbaa
