
import Derived.Test.YtkdmmomfolhfbaaRows
import Derived.Test.YtkdmmomfolhfbaaHubK
import Derived.Test.YtkdmmomfolhfbaaPure
import Derived.Test.YtkdmmomfolhfbaaMem
import Derived.Test.YtkdmmomfolhfbaaPortA
import Derived.Test.YtkdmmomfolhfbaaRow
namespace Go.Proofs.Ytkdmmomfolhfbaa
set_option linter.unusedVariables false
set_option linter.unusedSimpArgs false
open Go.ChangeShapes Go.WideShapes Go.RowKit

set_option maxRecDepth 20000 in
set_option maxHeartbeats 8000000 in
theorem hubHolds_in (hS : CHStep) (n : Nat) (hn : n < 256) (bad : Nat) (hbad : bad < 256) (M : Nat) (hM : 3 + (n : Int) % 6 = M) (f : Nat → Int) (hf : Bd12 f) (v : Value) (N : Nat) (s : Nat → Nat) (hN : N ≤ 100) (hs : ∀ j, j < N → s j < 256) (w : World) (hv : Bts w v N s)
    (hok : Vote.Ok M f) (h10 : 1 ≤ f 10) :
    Calls Try.prog 5 #[.agg #[.int .u8 n, .int .i64 (f 0), .int .i64 (f 1), .int .i64 (f 2), .int .i64 (f 3), .int .i64 (f 4), .int .i64 (f 5), .int .i64 (f 6), .int .i64 (f 7), .int .i64 (f 8), .int .i64 (f 9), .int .i64 (f 10), .int .i64 (f 11), .int .u8 bad, v]] w fun e w' => e = .returned (.bool true) ∧ Below w.heap.size w w' := by
  have h38 := hok.1
  have AW := Lib.hid (awake13_of hS)
  have bm : Bd (M : Int) := by unfold Bd; omega
  have RR := Lib.hid (fun w => refVRight_any M f w)
  rw [Vote.ok_iff.2 hok] at RR
  have ST := Lib.hid (fun g va l w (hg : Vote.Ok M g) hl => hS M g va M l w bm (ok_bd hg) (by omega) hl)
  have hmk := make_pairs M (by omega)
  have HV := Lib.hid hv
  have HOK := Lib.hid hok
  obtain ⟨pv, cv, rfl⟩ := hv.form
  clear hS bm hok hf hv
  go_enter Try.func5, Try.ntmps5
  go_upto_region 1 with fail
  go_cut [3, 4, 5, 6] from 15 to 22 (fun s3 s4 s5 s6 wx => s3 = .int .u8 n ∧ s5 = .int .u8 bad ∧ s6 = .slice pv N cv ∧ ∃ bx : Nat, s4 = .pointer (some ⟨bx, 0, none⟩) ∧ w.heap.size < bx ∧ Ints wx bx 12 f ∧ Below w.heap.size w wx)
  case first =>
    go_region
    go_wp2_with fail
    go_meet
    exact ⟨rfl, rfl, rfl, w.heap.size + 1, rfl, by omega, by first | exact Ints.box2 w f _ _ _ | exact (Ints.drew1 (Ints.box2 w f _ _ _)), bel⟩
  case rest =>
    obtain ⟨rfl, rfl, rfl, bx, rfl, zb, hI, hbel⟩ := hcut
    have HX0 := Lib.hid hI
    have HB0 := Lib.hid hbel
    clear hI hbel
    have HX0_c0 := (HX0.out.2 0 (by decide)).1; have HX0_c1 := (HX0.out.2 1 (by decide)).1; have HX0_c2 := (HX0.out.2 2 (by decide)).1; have HX0_c3 := (HX0.out.2 3 (by decide)).1; have HX0_c4 := (HX0.out.2 4 (by decide)).1; have HX0_c5 := (HX0.out.2 5 (by decide)).1; have HX0_c6 := (HX0.out.2 6 (by decide)).1; have HX0_c7 := (HX0.out.2 7 (by decide)).1; have HX0_c8 := (HX0.out.2 8 (by decide)).1; have HX0_c9 := (HX0.out.2 9 (by decide)).1; have HX0_c10 := (HX0.out.2 10 (by decide)).1; have HX0_c11 := (HX0.out.2 11 (by decide)).1; have HX0_z := HX0.out.1
    go_wp2_with fail
    refine (RR.out _).mono ?_; rintro e w1 ⟨rfl, hb⟩; have hz := hb.size; (try simp only [World.size_alloc, World.heap_drewN, World.size_drew, World.size_setCell] at hz)
    have HB1 := Lib.hid (show Below w.heap.size w w1 from by have := HB0.out; exact bel)
    have HX1 := Lib.hid (HX0.out.below hb)
    clear hb HX0 HB0
    clear HX0_c0 HX0_c1 HX0_c2 HX0_c3 HX0_c4 HX0_c5 HX0_c6 HX0_c7 HX0_c8 HX0_c9 HX0_c10 HX0_c11 HX0_z
    have c10 := (HX1.out.2 10 (by decide)).1
    have f10 := (HX1.out.2 10 (by decide)).2
    have zx := HX1.out.1
    have d10 : decide (f 10 < 1) = false := decide_eq_false (by omega)
    have d100 : decide ((100 : Int) < N) = false := decide_eq_false (by omega)
    have hs2 : IntKind.i64.wrap (2 * (M : Int)) = 2 * M := IntWalk.i64_in _ (by omega)
    have t1 : Int.tmod (bad : Int) M = (bad : Int) % M := Int.tmod_eq_emod_of_nonneg (by omega)
    have t2 : ((M : Int) == 0) = false := by simp; omega
    have q0 := Int.emod_nonneg (bad : Int) (show (M : Int) ≠ 0 by omega)
    have q1 := Int.emod_lt_of_pos (bad : Int) (show (0 : Int) < M by omega)
    generalize (bad : Int) % (M : Int) = Bi at *
    obtain ⟨B, rfl⟩ := Int.eq_ofNat_of_zero_le q0
    have hBM : B < M := by omega
    go_upto_region 6 with fail
    generalize hw2 : World.setCell _ _ _ = w2
    have HX2 := Lib.hid (show Ints w2 bx 12 (fun j => if j = 10 then 2 * (M : Int) else f j) from by rw [← hw2]; exact HX1.out.set 10 _ (by decide) _ (fun j => rfl))
    have HB2 := Lib.hid (show Below w.heap.size w w2 from by have := HB1.out; rw [← hw2]; exact bel)
    clear hw2 c10 f10 zx HX1 HB1 d10 d100
    have HH := Lib.hid (show Hub.Holds M B (fun j => if j = 10 then 2 * (M : Int) else f j) from ⟨by
      obtain ⟨k1, k2, k3, k4, k5, k6⟩ := HOK.out
      exact ⟨k1, fun j hj => by show 0 ≤ (if j = 10 then 2 * (M : Int) else f j) ∧ (if j = 10 then 2 * (M : Int) else f j) ≤ _; rw [if_neg (show ¬ j = 10 by omega)]; exact k2 j hj, k3, k4, ⟨by show (0 : Int) ≤ 2 * M; omega, by show 2 * (M : Int) ≤ 2 * M; omega⟩, k6⟩, Or.inl rfl⟩)
    go_wp2_with fail
    go_loopw [9] (fun k wr => ∃ K : Nat, K ≤ N ∧ k = .int .i64 K ∧ ∃ g, Hub.Holds M B g ∧ Ints wr bx 12 g ∧ Below w.heap.size w wr) (fun k _ => N - (intOf k).toNat)
    case atStart => exact ⟨0, by omega, rfl, _, HH.out, HX2.out, HB2.out⟩
    case round =>
      clear HX2 HB2 HH
      obtain ⟨K, hK, rfl, g, hH, hX, hb⟩ := hrel
      have HB := Lib.hid hb
      have HX := Lib.hid hX
      have HH := Lib.hid hH
      clear hb hX hH
      by_cases hlt : K < N
      · have h1 : (K : Int) < N := by omega
        have h0 : (0 : Int) ≤ K := by omega
        have zx := HX.out.1
        have c11 := (HX.out.2 11 (by decide)).1
        have k11 := HH.out.1.2.2.2.2.2
        have e1 : IntKind.i64.wrap (g 11 + 1) = g 11 + 1 := IntWalk.i64_in _ (by omega)
        have e2 : Int.tmod (g 11 + 1) M = (g 11 + 1) % M := Int.tmod_eq_emod_of_nonneg (by omega)
        have r0 := Int.emod_nonneg (g 11 + 1) (show (M : Int) ≠ 0 by omega)
        have r1 := Int.emod_lt_of_pos (g 11 + 1) (show (0 : Int) < M by omega)
        generalize hS : (g 11 + 1) % (M : Int) = Si at *
        obtain ⟨S, rfl⟩ := Int.eq_ofNat_of_zero_le r0
        have HS := Lib.hid hS
        clear hS
        have hSM : S < M := by omega
        go_upto_region 12 with fail
        have HX2 := Lib.hid (HX.out.alloc (.cells (madeCells #[.int .i64 0, .int .i64 0] (2 * M)) 33))
        have HL2 := Lib.hid (Ints.made wr (2 * M) 33)
        have HB2 := Lib.hid (show Below w.heap.size w (wr.alloc (.cells (madeCells #[.int .i64 0, .int .i64 0] (2 * M)) 33)) from by have := HB.out; exact bel)
        have zr : w.heap.size ≤ wr.heap.size := HB.out.size
        clear HX HB c11
        generalize hwl : World.alloc _ _ = wl at *
        generalize hbl : wr.heap.size = bl at *
        obtain ⟨a0, b0⟩ := HL2.out.2 (S * 2) (by omega)
        obtain ⟨a1, b1⟩ := HL2.out.2 (S * 2 + 1) (by omega)
        have zl := HL2.out.1
        have S0 : (0 : Int) ≤ S := by omega
        have S1 : (S : Int) < M := by omega
        have B0 : (0 : Int) ≤ B := by omega
        have B1 : (B : Int) < M := by omega
        go_upto_region 13 with fail
        generalize hw3 : World.setCell _ _ _ = w3
        have HX3 := Lib.hid (show Ints w3 bx 12 g from by rw [← hw3]; exact (HX2.out.other _ _ _ (by omega)).other _ _ _ (by omega))
        have HL3 := Lib.hid (show Ints w3 bl (2 * M) (fun j => if j = S * 2 + 1 then (S : Int) else if j = S * 2 then 2 else 0) from by
          rw [← hw3]
          exact (HL2.out.set (S * 2) 2 (by omega) _ (fun j => rfl)).set (S * 2 + 1) S (by omega) _ (fun j => rfl))
        have HB3 := Lib.hid (show Below w.heap.size w w3 from by have := HB2.out; rw [← hw3]; exact bel)
        clear hw3 HX2 HL2 HB2 a0 b0 a1 b1 zl
        obtain ⟨a0, b0⟩ := HL3.out.2 (B * 2) (by omega)
        obtain ⟨a1, b1⟩ := HL3.out.2 (B * 2 + 1) (by omega)
        have zl := HL3.out.1
        generalize hu0 : (if B * 2 = S * 2 + 1 then (S : Int) else if B * 2 = S * 2 then 2 else 0) = u0 at a0
        generalize hu1 : (if B * 2 + 1 = S * 2 + 1 then (S : Int) else if B * 2 + 1 = S * 2 then 2 else 0) = u1 at a1
        clear hu0 hu1
        go_upto_region 14 with fail
        generalize hw4 : World.setCell _ _ _ = w4
        have HX4 := Lib.hid (show Ints w4 bx 12 g from by rw [← hw4]; exact (HX3.out.other _ _ _ (by omega)).other _ _ _ (by omega))
        have HL4 := Lib.hid (show Ints w4 bl (2 * M) (Hub.holdL B 0 S) from by
          rw [← hw4]
          refine ((HL3.out.set (B * 2) 0 (by omega) _ (fun j => rfl)).set (B * 2 + 1) 0 (by omega) _ (fun j => rfl)).like (fun j hj => ?_)
          unfold Hub.holdL
          rw [if_pos rfl])
        have HB4 := Lib.hid (show Below w.heap.size w w4 from by have := HB3.out; rw [← hw4]; exact bel)
        clear hw4 HX3 HL3 HB3 a0 b0 a1 b1 zl
        obtain ⟨bv, ov, rfl, hbv, hc⟩ := HV.out.some (by omega)
        have cv0 := hc K hlt
        replace cv0 : w4.cell? ⟨bv, ov + K, none⟩ = some (.int .u8 (s K)) := by rw [HB4.out.cell (p := ⟨bv, ov + K, none⟩) hbv]; exact cv0
        clear hc
        have hsK := hs K hlt
        obtain ⟨a0, b0⟩ := HL4.out.2 (B * 2) (by omega)
        obtain ⟨a1, b1⟩ := HL4.out.2 (B * 2 + 1) (by omega)
        have zl := HL4.out.1
        generalize hu0 : Hub.holdL B 0 S (B * 2) = u0 at a0
        generalize hu1 : Hub.holdL B 0 S (B * 2 + 1) = u1 at a1
        clear hu0 hu1
        go_upto_if 76 with fail
        go_cut [77] from 77 to 87 (fun s77 wx => Ints wx bx 12 g ∧ (∃ q : Int, (q = 0 ∨ q = 1 ∨ q = 2) ∧ Ints wx bl (2 * M) (Hub.holdL B q S)) ∧ Below w.heap.size w wx)
        case first =>
          have h3 : (s K : Int) % 3 = 0 ∨ (s K : Int) % 3 = 1 ∨ (s K : Int) % 3 = 2 := by omega
          rcases h3 with h3 | h3 | h3
          · have h4 : decide ((0 : Int) < (s K : Int) % 3) = false := decide_eq_false (by omega)
            go_wp2_with fail
            go_meet
            exact ⟨HX4.out, ⟨0, Or.inl rfl, HL4.out⟩, HB4.out⟩
          · have h4 : decide ((0 : Int) < (s K : Int) % 3) = true := decide_eq_true (by omega)
            go_wp2_with fail
            go_meet
            refine ⟨(HX4.out.other _ _ _ (by omega)).other _ _ _ (by omega), ⟨1, Or.inr (Or.inl rfl), ((HL4.out.set (B * 2) 1 (by omega) _ (fun j => rfl)).set (B * 2 + 1) B (by omega) _ (fun j => rfl)).like (fun j hj => ?_)⟩, (by have := HB4.out; exact bel)⟩
            unfold Hub.holdL
            by_cases e1 : j = B * 2 + 1
            · rw [if_pos e1, if_pos e1, if_neg (by decide)]
            · by_cases e0 : j = B * 2
              · rw [if_neg e1, if_pos e0, if_neg e1, if_pos e0]
              · rw [if_neg e1, if_neg e0, if_neg e1, if_neg e0, if_neg e1, if_neg e0]
          · have h4 : decide ((0 : Int) < (s K : Int) % 3) = true := decide_eq_true (by omega)
            go_wp2_with fail
            go_meet
            refine ⟨(HX4.out.other _ _ _ (by omega)).other _ _ _ (by omega), ⟨2, Or.inr (Or.inr rfl), ((HL4.out.set (B * 2) 2 (by omega) _ (fun j => rfl)).set (B * 2 + 1) B (by omega) _ (fun j => rfl)).like (fun j hj => ?_)⟩, (by have := HB4.out; exact bel)⟩
            unfold Hub.holdL
            by_cases e1 : j = B * 2 + 1
            · rw [if_pos e1, if_pos e1, if_neg (by decide)]
            · by_cases e0 : j = B * 2
              · rw [if_neg e1, if_pos e0, if_neg e1, if_pos e0]
              · rw [if_neg e1, if_neg e0, if_neg e1, if_neg e0, if_neg e1, if_neg e0]
        case rest =>
          obtain ⟨hX5, ⟨q, hq, hL5⟩, hB5⟩ := hcut
          clear HX4 HL4 HB4 a0 b0 a1 b1 zl cv0
          obtain ⟨hnx, n11, n10, hyes, hno⟩ := Hub.Holds.next (q := q) HH.out HS.out.symm hq
          have hw0 := Gate.wrong_zero HH.out.1 (Hub.holdL_fits (b := B) (s := S) h38 hq)
          have T2 := Lib.hid (fun va w hl => ST.out g va (Hub.holdL B q S) w HH.out.1 hl)
          rw [stepH_yes hw0, stepF_yes hw0, hw0] at T2
          have HNX := Lib.hid hnx
          have HLs := Lib.hid (fun h : S ≠ B => Hub.holdL_s (q := q) h)
          have HX5 := Lib.hid hX5
          have HL5 := Lib.hid hL5
          have HB5 := Lib.hid hB5
          have H11 := Lib.hid n11
          have H10 := Lib.hid n10
          have HY := Lib.hid hyes
          have HN := Lib.hid hno
          generalize Hub.step M g (Hub.holdL B q S) M = d at *
          generalize Hub.out M g (Hub.holdL B q S) M 0 = o0 at *
          generalize Hub.out M g (Hub.holdL B q S) M 1 = o1 at *
          generalize Hub.holdL B q S = L at *
          clear hnx hw0 n11 n10 hyes hno hX5 hL5 hB5
          have HX5_c0 := (HX5.out.2 0 (by decide)).1; have HX5_c1 := (HX5.out.2 1 (by decide)).1; have HX5_c2 := (HX5.out.2 2 (by decide)).1; have HX5_c3 := (HX5.out.2 3 (by decide)).1; have HX5_c4 := (HX5.out.2 4 (by decide)).1; have HX5_c5 := (HX5.out.2 5 (by decide)).1; have HX5_c6 := (HX5.out.2 6 (by decide)).1; have HX5_c7 := (HX5.out.2 7 (by decide)).1; have HX5_c8 := (HX5.out.2 8 (by decide)).1; have HX5_c9 := (HX5.out.2 9 (by decide)).1; have HX5_c10 := (HX5.out.2 10 (by decide)).1; have HX5_c11 := (HX5.out.2 11 (by decide)).1; have HX5_z := HX5.out.1
          go_wp2_with fail
          refine (T2.out _ _ (HL5.out.prs)).mono ?_
          rintro e w6 ⟨rfl, hb⟩
          have hz := hb.size
          have HB6 := Lib.hid (show Below w.heap.size w w6 from by have := HB5.out; exact bel)
          have HX6 := Lib.hid (HX5.out.below hb)
          have HL6 := Lib.hid (HL5.out.below hb)
          clear hb HX5 HL5 HB5
          clear HX5_c0 HX5_c1 HX5_c2 HX5_c3 HX5_c4 HX5_c5 HX5_c6 HX5_c7 HX5_c8 HX5_c9 HX5_c10 HX5_c11 HX5_z
          go_upto_region 17 with fail
          have HA7 := Lib.hid ((Ints.box w6 d 24).alloc (.cells #[.int .i64 o0, .int .i64 o1] 33))
          have HF7 := Lib.hid (Ints.two (w6.alloc (.cells #[.int .i64 (d 0), .int .i64 (d 1), .int .i64 (d 2), .int .i64 (d 3), .int .i64 (d 4), .int .i64 (d 5), .int .i64 (d 6), .int .i64 (d 7), .int .i64 (d 8), .int .i64 (d 9), .int .i64 (d 10), .int .i64 (d 11)] 24)) o0 o1 33 (fun j => if j = 0 then o0 else o1) rfl rfl)
          rw [World.size_alloc] at HF7
          have HX7 := Lib.hid ((HX6.out.alloc (.cells #[.int .i64 (d 0), .int .i64 (d 1), .int .i64 (d 2), .int .i64 (d 3), .int .i64 (d 4), .int .i64 (d 5), .int .i64 (d 6), .int .i64 (d 7), .int .i64 (d 8), .int .i64 (d 9), .int .i64 (d 10), .int .i64 (d 11)] 24)).alloc (.cells #[.int .i64 o0, .int .i64 o1] 33))
          have HL7 := Lib.hid ((HL6.out.alloc (.cells #[.int .i64 (d 0), .int .i64 (d 1), .int .i64 (d 2), .int .i64 (d 3), .int .i64 (d 4), .int .i64 (d 5), .int .i64 (d 6), .int .i64 (d 7), .int .i64 (d 8), .int .i64 (d 9), .int .i64 (d 10), .int .i64 (d 11)] 24)).alloc (.cells #[.int .i64 o0, .int .i64 o1] 33))
          have HB7 := Lib.hid (show Below w.heap.size w ((w6.alloc (.cells #[.int .i64 (d 0), .int .i64 (d 1), .int .i64 (d 2), .int .i64 (d 3), .int .i64 (d 4), .int .i64 (d 5), .int .i64 (d 6), .int .i64 (d 7), .int .i64 (d 8), .int .i64 (d 9), .int .i64 (d 10), .int .i64 (d 11)] 24)).alloc (.cells #[.int .i64 o0, .int .i64 o1] 33)) from by have := HB6.out; exact bel)
          have d10 : decide (d 10 < 1) = false := decide_eq_false (by have := H10.out; omega)
          clear HX6 HL6 HB6
          generalize World.alloc (World.alloc w6 _) _ = w7 at *
          by_cases eb : S = B
          · have e3 : (o0 == 1) = false := by simp [HN.out eb]
            subst eb
            refine region_below (by kernel_rfl) (by kernel_rfl) ?_; intro wR HW
            have HBR := Lib.hid (show Below w.heap.size w wR from by have := HB7.out; rw [← HW.out]; exact bel)
            have HXR := Lib.hid (show Ints wR bx 12 g from by rw [← HW.out]; exact HX7.out)
            have HAR := Lib.hid (show Ints wR w6.heap.size 12 d from by rw [← HW.out]; exact HA7.out)
            have x10 : wR.cell? ⟨w6.heap.size, 10, none⟩ = some (.int .i64 (d 10)) := (HAR.out.2 10 (by decide)).1
            have x11 : wR.cell? ⟨w6.heap.size, 11, none⟩ = some (.int .i64 S) := (HAR.out.2 11 (by decide)).1.trans (congrArg (fun z => some (Value.int .i64 z)) H11.out)
            have y0 : wR.cell? ⟨w6.heap.size + 1, 0, none⟩ = some (.int .i64 o0) := by
              have := (HF7.out.2 0 (by decide)).1
              rw [← HW.out]; exact this
            have y1 : wR.cell? ⟨w6.heap.size + 1, 1, none⟩ = some (.int .i64 o1) := by
              have := (HF7.out.2 1 (by decide)).1
              rw [← HW.out]; exact this
            replace x10 := cell_regrown x10
            replace x11 := cell_regrown x11
            replace y0 := cell_regrown y0
            replace y1 := cell_regrown y1
            (repeat (first | go_big_quiet_step (fail) | quiet_step (fail))); refine wpQuiet_nil ?_; intro w2 hb2
            have HX8 := Lib.hid (HXR.out.below hb2)
            have HA8 := Lib.hid (HAR.out.below hb2)
            have HB8 := Lib.hid (show Below w.heap.size w w2 from by have := HBR.out; exact bthru hb2 this)
            clear hb2 x10 x11 y0 y1 HXR HAR HBR
            have HX8_r := HX8.out.row12; have HX8_c0 := (HX8.out.2 0 (by decide)).1; have HX8_f0 := (HX8.out.2 0 (by decide)).2; have HX8_c1 := (HX8.out.2 1 (by decide)).1; have HX8_f1 := (HX8.out.2 1 (by decide)).2; have HX8_c2 := (HX8.out.2 2 (by decide)).1; have HX8_f2 := (HX8.out.2 2 (by decide)).2; have HX8_c3 := (HX8.out.2 3 (by decide)).1; have HX8_f3 := (HX8.out.2 3 (by decide)).2; have HX8_c4 := (HX8.out.2 4 (by decide)).1; have HX8_f4 := (HX8.out.2 4 (by decide)).2; have HX8_c5 := (HX8.out.2 5 (by decide)).1; have HX8_f5 := (HX8.out.2 5 (by decide)).2; have HX8_c6 := (HX8.out.2 6 (by decide)).1; have HX8_f6 := (HX8.out.2 6 (by decide)).2; have HX8_c7 := (HX8.out.2 7 (by decide)).1; have HX8_f7 := (HX8.out.2 7 (by decide)).2; have HX8_c8 := (HX8.out.2 8 (by decide)).1; have HX8_f8 := (HX8.out.2 8 (by decide)).2; have HX8_c9 := (HX8.out.2 9 (by decide)).1; have HX8_f9 := (HX8.out.2 9 (by decide)).2; have HX8_c10 := (HX8.out.2 10 (by decide)).1; have HX8_f10 := (HX8.out.2 10 (by decide)).2; have HX8_c11 := (HX8.out.2 11 (by decide)).1; have HX8_f11 := (HX8.out.2 11 (by decide)).2; have HX8_z := HX8.out.1
            have HA8_c0 := (HA8.out.2 0 (by decide)).1; have HA8_c1 := (HA8.out.2 1 (by decide)).1; have HA8_c2 := (HA8.out.2 2 (by decide)).1; have HA8_c3 := (HA8.out.2 3 (by decide)).1; have HA8_c4 := (HA8.out.2 4 (by decide)).1; have HA8_c5 := (HA8.out.2 5 (by decide)).1; have HA8_c6 := (HA8.out.2 6 (by decide)).1; have HA8_c7 := (HA8.out.2 7 (by decide)).1; have HA8_c8 := (HA8.out.2 8 (by decide)).1; have HA8_c9 := (HA8.out.2 9 (by decide)).1; have HA8_c10 := (HA8.out.2 10 (by decide)).1; have HA8_c11 := (HA8.out.2 11 (by decide)).1; have HA8_z := HA8.out.1
            go_upto_region 9 with fail
            generalize hw9 : World.setCell _ _ _ = w9
            have HX9 := Lib.hid (show Ints w9 bx 12 d from by rw [← hw9]; exact HX8.out.set12 d)
            have HB9 := Lib.hid (show Below w.heap.size w w9 from by have := HB8.out; rw [← hw9]; exact bel)
            clear hw9 HX8 HA8 HB8 HX8_r HX8_f0 HX8_f1 HX8_f2 HX8_f3 HX8_f4 HX8_f5 HX8_f6 HX8_f7 HX8_f8 HX8_f9 HX8_f10 HX8_f11
            clear HX8_c0 HX8_c1 HX8_c2 HX8_c3 HX8_c4 HX8_c5 HX8_c6 HX8_c7 HX8_c8 HX8_c9 HX8_c10 HX8_c11 HX8_z
            clear HA8_c0 HA8_c1 HA8_c2 HA8_c3 HA8_c4 HA8_c5 HA8_c6 HA8_c7 HA8_c8 HA8_c9 HA8_c10 HA8_c11 HA8_z
            go_wp2
            go_roundw
            case rel => exact ⟨K + 1, by omega, by go_num, d, HNX.out, HX9.out, HB9.out⟩
            case measure => simp [intOf]; omega
          · have e3 : ((S : Int) == (B : Int)) = false := by simp; omega
            have e4 : ¬ (S : Int) = (B : Int) := by omega
            have e5 : ((S : Int) != (B : Int)) = true := by simp; omega
            refine region_below (by kernel_rfl) (by kernel_rfl) ?_; intro wR HW
            have HBR := Lib.hid (show Below w.heap.size w wR from by have := HB7.out; rw [← HW.out]; exact bel)
            have HXR := Lib.hid (show Ints wR bx 12 g from by rw [← HW.out]; exact HX7.out)
            have HAR := Lib.hid (show Ints wR w6.heap.size 12 d from by rw [← HW.out]; exact HA7.out)
            have x10 : wR.cell? ⟨w6.heap.size, 10, none⟩ = some (.int .i64 (d 10)) := (HAR.out.2 10 (by decide)).1
            have x11 : wR.cell? ⟨w6.heap.size, 11, none⟩ = some (.int .i64 S) := (HAR.out.2 11 (by decide)).1.trans (congrArg (fun z => some (Value.int .i64 z)) H11.out)
            have y0 : wR.cell? ⟨w6.heap.size + 1, 0, none⟩ = some (.int .i64 2) := by
              have := (HF7.out.2 0 (by decide)).1
              rw [← HW.out]; exact (this.trans (congrArg (fun z => some (Value.int .i64 z)) (HY.out eb).1))
            have y1 : wR.cell? ⟨w6.heap.size + 1, 1, none⟩ = some (.int .i64 S) := by
              have := (HF7.out.2 1 (by decide)).1
              rw [← HW.out]; exact (this.trans (congrArg (fun z => some (Value.int .i64 z)) (HY.out eb).2))
            have l0 : wR.cell? ⟨bl, S * 2, none⟩ = some (.int .i64 2) := by
              have := (HL7.out.2 (S * 2) (by omega)).1
              rw [← HW.out]; exact this.trans (congrArg (fun z => some (Value.int .i64 z)) (HLs.out eb).1)
            have l1 : wR.cell? ⟨bl, S * 2 + 1, none⟩ = some (.int .i64 S) := by
              have := (HL7.out.2 (S * 2 + 1) (by omega)).1
              rw [← HW.out]; exact this.trans (congrArg (fun z => some (Value.int .i64 z)) (HLs.out eb).2)
            replace l0 := cell_regrown l0
            replace l1 := cell_regrown l1
            replace x10 := cell_regrown x10
            replace x11 := cell_regrown x11
            replace y0 := cell_regrown y0
            replace y1 := cell_regrown y1
            (repeat (first | go_big_quiet_step (fail) | quiet_step (fail))); refine wpQuiet_nil ?_; intro w2 hb2
            have HX8 := Lib.hid (HXR.out.below hb2)
            have HA8 := Lib.hid (HAR.out.below hb2)
            have HB8 := Lib.hid (show Below w.heap.size w w2 from by have := HBR.out; exact bthru hb2 this)
            clear hb2 x10 x11 y0 y1 HXR HAR HBR
            have HX8_r := HX8.out.row12; have HX8_c0 := (HX8.out.2 0 (by decide)).1; have HX8_f0 := (HX8.out.2 0 (by decide)).2; have HX8_c1 := (HX8.out.2 1 (by decide)).1; have HX8_f1 := (HX8.out.2 1 (by decide)).2; have HX8_c2 := (HX8.out.2 2 (by decide)).1; have HX8_f2 := (HX8.out.2 2 (by decide)).2; have HX8_c3 := (HX8.out.2 3 (by decide)).1; have HX8_f3 := (HX8.out.2 3 (by decide)).2; have HX8_c4 := (HX8.out.2 4 (by decide)).1; have HX8_f4 := (HX8.out.2 4 (by decide)).2; have HX8_c5 := (HX8.out.2 5 (by decide)).1; have HX8_f5 := (HX8.out.2 5 (by decide)).2; have HX8_c6 := (HX8.out.2 6 (by decide)).1; have HX8_f6 := (HX8.out.2 6 (by decide)).2; have HX8_c7 := (HX8.out.2 7 (by decide)).1; have HX8_f7 := (HX8.out.2 7 (by decide)).2; have HX8_c8 := (HX8.out.2 8 (by decide)).1; have HX8_f8 := (HX8.out.2 8 (by decide)).2; have HX8_c9 := (HX8.out.2 9 (by decide)).1; have HX8_f9 := (HX8.out.2 9 (by decide)).2; have HX8_c10 := (HX8.out.2 10 (by decide)).1; have HX8_f10 := (HX8.out.2 10 (by decide)).2; have HX8_c11 := (HX8.out.2 11 (by decide)).1; have HX8_f11 := (HX8.out.2 11 (by decide)).2; have HX8_z := HX8.out.1
            have HA8_c0 := (HA8.out.2 0 (by decide)).1; have HA8_c1 := (HA8.out.2 1 (by decide)).1; have HA8_c2 := (HA8.out.2 2 (by decide)).1; have HA8_c3 := (HA8.out.2 3 (by decide)).1; have HA8_c4 := (HA8.out.2 4 (by decide)).1; have HA8_c5 := (HA8.out.2 5 (by decide)).1; have HA8_c6 := (HA8.out.2 6 (by decide)).1; have HA8_c7 := (HA8.out.2 7 (by decide)).1; have HA8_c8 := (HA8.out.2 8 (by decide)).1; have HA8_c9 := (HA8.out.2 9 (by decide)).1; have HA8_c10 := (HA8.out.2 10 (by decide)).1; have HA8_c11 := (HA8.out.2 11 (by decide)).1; have HA8_z := HA8.out.1
            go_upto_region 9 with fail
            generalize hw9 : World.setCell _ _ _ = w9
            have HX9 := Lib.hid (show Ints w9 bx 12 d from by rw [← hw9]; exact HX8.out.set12 d)
            have HB9 := Lib.hid (show Below w.heap.size w w9 from by have := HB8.out; rw [← hw9]; exact bel)
            clear hw9 HX8 HA8 HB8 HX8_r HX8_f0 HX8_f1 HX8_f2 HX8_f3 HX8_f4 HX8_f5 HX8_f6 HX8_f7 HX8_f8 HX8_f9 HX8_f10 HX8_f11
            clear HX8_c0 HX8_c1 HX8_c2 HX8_c3 HX8_c4 HX8_c5 HX8_c6 HX8_c7 HX8_c8 HX8_c9 HX8_c10 HX8_c11 HX8_z
            clear HA8_c0 HA8_c1 HA8_c2 HA8_c3 HA8_c4 HA8_c5 HA8_c6 HA8_c7 HA8_c8 HA8_c9 HA8_c10 HA8_c11 HA8_z
            go_wp2
            go_roundw
            case rel => exact ⟨K + 1, by omega, by go_num, d, HNX.out, HX9.out, HB9.out⟩
            case measure => simp [intOf]; omega
      · obtain rfl : K = N := by omega
        have := HB.out
        go_wp2_with fail
        refine (AW.out _).mono ?_; rintro e w9 ⟨rfl, hb⟩; have hz := hb.size; (try simp only [World.size_alloc, World.heap_drewN, World.size_drew, World.size_setCell] at hz)
        go_wp2
        go_ret
        exact ⟨rfl, bel⟩
end Go.Proofs.Ytkdmmomfolhfbaa
namespace Go.Proofs.Ytkdmmomfolhfbaa
set_option linter.unusedVariables false
set_option linter.unusedSimpArgs false
open Go.ChangeShapes Go.WideShapes Go.RowKit

set_option maxHeartbeats 8000000 in
theorem hubHolds_out (hS : CHStep) (n : Nat) (hn : n < 256) (bad : Nat) (hbad : bad < 256) (M : Nat) (hM : 3 + (n : Int) % 6 = M) (f : Nat → Int) (pv : Option Addr) (N cv : Nat) (w : World)
    (h : ¬ (Vote.Ok M f ∧ 1 ≤ f 10 ∧ N ≤ 100)) :
    Calls Try.prog 5 #[.agg #[.int .u8 n, .int .i64 (f 0), .int .i64 (f 1), .int .i64 (f 2), .int .i64 (f 3), .int .i64 (f 4), .int .i64 (f 5), .int .i64 (f 6), .int .i64 (f 7), .int .i64 (f 8), .int .i64 (f 9), .int .i64 (f 10), .int .i64 (f 11), .int .u8 bad, .slice pv N cv]] w fun e w' => e = .returned (.bool true) ∧ Below w.heap.size w w' := by
  have AW := Lib.hid (awake13_of hS)
  have RR := Lib.hid (fun w => refVRight_any M f w)
  clear hS
  go_enter Try.func5, Try.ntmps5
  go_upto_region 1 with fail
  go_cut [3, 4, 5, 6] from 15 to 22 (fun s3 s4 s5 s6 wx => s3 = .int .u8 n ∧ s5 = .int .u8 bad ∧ s6 = .slice pv N cv ∧ ∃ bx : Nat, s4 = .pointer (some ⟨bx, 0, none⟩) ∧ w.heap.size < bx ∧ Ints wx bx 12 f ∧ Below w.heap.size w wx)
  case first =>
    go_region
    go_wp2_with fail
    go_meet
    exact ⟨rfl, rfl, rfl, w.heap.size + 1, rfl, by omega, by first | exact Ints.box2 w f _ _ _ | exact (Ints.drew1 (Ints.box2 w f _ _ _)), bel⟩
  case rest =>
    obtain ⟨rfl, rfl, rfl, bx, rfl, zb, hI, hbel⟩ := hcut
    have HX0 := Lib.hid hI
    have HB0 := Lib.hid hbel
    clear hI hbel
    have HX0_c0 := (HX0.out.2 0 (by decide)).1; have HX0_c1 := (HX0.out.2 1 (by decide)).1; have HX0_c2 := (HX0.out.2 2 (by decide)).1; have HX0_c3 := (HX0.out.2 3 (by decide)).1; have HX0_c4 := (HX0.out.2 4 (by decide)).1; have HX0_c5 := (HX0.out.2 5 (by decide)).1; have HX0_c6 := (HX0.out.2 6 (by decide)).1; have HX0_c7 := (HX0.out.2 7 (by decide)).1; have HX0_c8 := (HX0.out.2 8 (by decide)).1; have HX0_c9 := (HX0.out.2 9 (by decide)).1; have HX0_c10 := (HX0.out.2 10 (by decide)).1; have HX0_c11 := (HX0.out.2 11 (by decide)).1; have HX0_z := HX0.out.1
    go_wp2_with fail
    refine (RR.out _).mono ?_; rintro e w1 ⟨rfl, hb⟩; have hz := hb.size; (try simp only [World.size_alloc, World.heap_drewN, World.size_drew, World.size_setCell] at hz)
    have HB1 := Lib.hid (show Below w.heap.size w w1 from by have := HB0.out; exact bel)
    have HX1 := Lib.hid (HX0.out.below hb)
    clear hb HX0 HB0
    clear HX0_c0 HX0_c1 HX0_c2 HX0_c3 HX0_c4 HX0_c5 HX0_c6 HX0_c7 HX0_c8 HX0_c9 HX0_c10 HX0_c11 HX0_z
    have c10 := (HX1.out.2 10 (by decide)).1
    have zx := HX1.out.1
    by_cases hok : Vote.Ok M f
    · rw [Vote.ok_iff.2 hok]
      by_cases h10 : 1 ≤ f 10
      · have d10 : decide (f 10 < 1) = false := decide_eq_false (by omega)
        have d100 : decide ((100 : Int) < N) = true := decide_eq_true (by
          have : ¬ N ≤ 100 := fun q => h ⟨hok, h10, q⟩
          omega)
        go_wp2_with fail
        refine (AW.out _).mono ?_; rintro e w9 ⟨rfl, hb⟩; have hz := hb.size; (try simp only [World.size_alloc, World.heap_drewN, World.size_drew, World.size_setCell] at hz)
        have := HB1.out
        go_wp2
        go_ret
        exact ⟨rfl, bel⟩
      · have d10 : decide (f 10 < 1) = true := decide_eq_true (by omega)
        go_wp2_with fail
        refine (AW.out _).mono ?_; rintro e w9 ⟨rfl, hb⟩; have hz := hb.size; (try simp only [World.size_alloc, World.heap_drewN, World.size_drew, World.size_setCell] at hz)
        have := HB1.out
        go_wp2
        go_ret
        exact ⟨rfl, bel⟩
    · rw [Vote.ok_no hok]
      go_wp2_with fail
      refine (AW.out _).mono ?_; rintro e w9 ⟨rfl, hb⟩; have hz := hb.size; (try simp only [World.size_alloc, World.heap_drewN, World.size_drew, World.size_setCell] at hz)
      have := HB1.out
      go_wp2
      go_ret
      exact ⟨rfl, bel⟩
theorem hubHolds_of (hS : CHStep) (n : Nat) (hn : n < 256) (f : Nat → Int) (hf : Bd12 f) (bad : Nat) (hbad : bad < 256) (v : Value) (N : Nat) (s : Nat → Nat) (hs : ∀ j, j < N → s j < 256) (w : World) (hv : Bts w v N s) :
    Calls Try.prog 5 #[.agg #[.int .u8 n, .int .i64 (f 0), .int .i64 (f 1), .int .i64 (f 2), .int .i64 (f 3), .int .i64 (f 4), .int .i64 (f 5), .int .i64 (f 6), .int .i64 (f 7), .int .i64 (f 8), .int .i64 (f 9), .int .i64 (f 10), .int .i64 (f 11), .int .u8 bad, v]] w fun e w' => e = .returned (.bool true) ∧ Below w.heap.size w w' := by
  obtain ⟨M, hM⟩ := Int.eq_ofNat_of_zero_le (show 0 ≤ 3 + (n : Int) % 6 by omega)
  by_cases h : Vote.Ok M f ∧ 1 ≤ f 10 ∧ N ≤ 100
  · exact hubHolds_in hS n hn bad hbad M hM f hf v N s h.2.2 hs w hv h.1 h.2.1
  · obtain ⟨pv, cv, rfl⟩ := hv.form
    exact hubHolds_out hS n hn bad hbad M hM f pv N cv w h
end Go.Proofs.Ytkdmmomfolhfbaa
