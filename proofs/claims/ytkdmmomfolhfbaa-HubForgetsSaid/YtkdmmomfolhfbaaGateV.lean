
import Derived.Test.YtkdmmomfolhfbaaRows
import Derived.Test.YtkdmmomfolhfbaaGateG
import Derived.Test.YtkdmmomfolhfbaaGateZ
namespace Go.Proofs.Ytkdmmomfolhfbaa
set_option linter.unusedVariables false
set_option linter.unusedSimpArgs false
open Go.ChangeShapes Go.WideShapes Go.RowKit

/-! The program's Relay: of a Cs. -/
def csK (f : Nat → Int) (n k : Int) (Q j : Nat) : Int := if j < Q then n else if j = 8 then k else if j = 9 then 0 else f j
theorem csK_next (f : Nat → Int) (n k : Int) (Q j : Nat) : csK f n k (Q + 1) j = if j = Q then n else csK f n k Q j := by
  unfold csK
  by_cases e : j = Q
  · subst e; rw [if_pos (by omega), if_pos rfl]
  · rw [if_neg e]
    by_cases h : j < Q
    · rw [if_pos h, if_pos (by omega)]
    · rw [if_neg h, if_neg (by omega)]
theorem csK_end {f : Nat → Int} {m : Nat} (h : Vote.Ok m f) (k : Int) (j : Nat) : csK f m k m j = if j < 8 then Vote.most m j else if j = 8 then k else if j = 9 then 0 else f j := by
  have h38 := h.1
  unfold csK
  by_cases hj : j < m
  · rw [if_pos hj, if_pos (by omega), Vote.most_yes (by omega)]
  · rw [if_neg hj]
    by_cases h8 : j < 8
    · have := h.2.1 j h8
      rw [Vote.most_no (by omega)] at this
      rw [if_pos h8, if_neg (by omega), if_neg (by omega), Vote.most_no (by omega)]
      omega
    · rw [if_neg h8]
set_option maxHeartbeats 8000000 in
theorem relayCs_any (m : Nat) (f : Nat → Int) (va : Value) (l : Nat → Int) (w : World) (hm : m ≤ 1000) (hl : Prs w va m l) (h : Gate.wrong m f m l = 0) (h0 : ¬ 0 < f 10) (h9 : 2 * (m : Int) < f 9) :
    Calls Try.prog 40 #[.int .i64 m, .agg #[.int .i64 (f 0), .int .i64 (f 1), .int .i64 (f 2), .int .i64 (f 3), .int .i64 (f 4), .int .i64 (f 5), .int .i64 (f 6), .int .i64 (f 7), .int .i64 (f 8), .int .i64 (f 9), .int .i64 (f 10), .int .i64 (f 11)], va] w fun e w' => e = .returned (.tuple #[.agg #[.int .i64 (Gate.relay m f l m 0), .int .i64 (Gate.relay m f l m 1), .int .i64 (Gate.relay m f l m 2), .int .i64 (Gate.relay m f l m 3), .int .i64 (Gate.relay m f l m 4), .int .i64 (Gate.relay m f l m 5), .int .i64 (Gate.relay m f l m 6), .int .i64 (Gate.relay m f l m 7), .int .i64 (Gate.relay m f l m 8), .int .i64 (Gate.relay m f l m 9), .int .i64 (Gate.relay m f l m 10), .int .i64 (Gate.relay m f l m 11)], .agg #[.int .i64 (Gate.relayed m f l m 0), .int .i64 (Gate.relayed m f l m 1)]]) ∧ Below w.heap.size w w' := by
  obtain ⟨hok, hfit⟩ := Gate.wrong_of h
  have h38 := hok.1
  have HA := Lib.hid hfit.2.2
  have HWC := Lib.hid (fun K hK hk hno => way_cs (f := f) (l := l) (K := K) h0 h9 hK hk hno)
  have HWN := Lib.hid (fun hno => way_no (f := f) (l := l) h0 h9 hno)
  have HRC := Lib.hid (fun hw => relay_cs (n := m) (f := f) (l := l) (m := m) hw)
  have HRN := Lib.hid (fun hw => relay_none (n := m) (f := f) (l := l) (m := m) hw)
  have HCE := Lib.hid (fun k j => csK_end hok k j)
  have HL := Lib.hid hl
  obtain ⟨p1, c1, rfl⟩ := hl.form
  generalize Gate.relay m f l m = g at *
  generalize Gate.relayed m f l m = rf at *
  clear hl h hok hfit h0 h9
  go_enter Try.func40, Try.ntmps40
  go_upto_region 1 with fail
  have HX1 := Lib.hid (((Ints.box w f 24).alloc (.cells #[.int .i64 ((fun _ => (0 : Int)) 0), .int .i64 ((fun _ => (0 : Int)) 1), .int .i64 ((fun _ => (0 : Int)) 2), .int .i64 ((fun _ => (0 : Int)) 3), .int .i64 ((fun _ => (0 : Int)) 4), .int .i64 ((fun _ => (0 : Int)) 5), .int .i64 ((fun _ => (0 : Int)) 6), .int .i64 ((fun _ => (0 : Int)) 7), .int .i64 ((fun _ => (0 : Int)) 8), .int .i64 ((fun _ => (0 : Int)) 9), .int .i64 ((fun _ => (0 : Int)) 10), .int .i64 ((fun _ => (0 : Int)) 11)] 24)).alloc (.cells #[.int .i64 0, .int .i64 0] 33))
  have HZ1 := Lib.hid ((Ints.zeros (w.alloc (.cells #[.int .i64 (f 0), .int .i64 (f 1), .int .i64 (f 2), .int .i64 (f 3), .int .i64 (f 4), .int .i64 (f 5), .int .i64 (f 6), .int .i64 (f 7), .int .i64 (f 8), .int .i64 (f 9), .int .i64 (f 10), .int .i64 (f 11)] 24)) 24).alloc (.cells #[.int .i64 0, .int .i64 0] 33))
  have HT1 := Lib.hid (Ints.two ((w.alloc (.cells #[.int .i64 (f 0), .int .i64 (f 1), .int .i64 (f 2), .int .i64 (f 3), .int .i64 (f 4), .int .i64 (f 5), .int .i64 (f 6), .int .i64 (f 7), .int .i64 (f 8), .int .i64 (f 9), .int .i64 (f 10), .int .i64 (f 11)] 24)).alloc (.cells #[.int .i64 ((fun _ => (0 : Int)) 0), .int .i64 ((fun _ => (0 : Int)) 1), .int .i64 ((fun _ => (0 : Int)) 2), .int .i64 ((fun _ => (0 : Int)) 3), .int .i64 ((fun _ => (0 : Int)) 4), .int .i64 ((fun _ => (0 : Int)) 5), .int .i64 ((fun _ => (0 : Int)) 6), .int .i64 ((fun _ => (0 : Int)) 7), .int .i64 ((fun _ => (0 : Int)) 8), .int .i64 ((fun _ => (0 : Int)) 9), .int .i64 ((fun _ => (0 : Int)) 10), .int .i64 ((fun _ => (0 : Int)) 11)] 24)) 0 0 33 (fun _ => 0) rfl rfl)
  simp only [World.size_alloc] at HX1 HZ1 HT1
  have HB1 := Lib.hid (show Below w.heap.size w (((w.alloc (.cells #[.int .i64 (f 0), .int .i64 (f 1), .int .i64 (f 2), .int .i64 (f 3), .int .i64 (f 4), .int .i64 (f 5), .int .i64 (f 6), .int .i64 (f 7), .int .i64 (f 8), .int .i64 (f 9), .int .i64 (f 10), .int .i64 (f 11)] 24)).alloc (.cells #[.int .i64 ((fun _ => (0 : Int)) 0), .int .i64 ((fun _ => (0 : Int)) 1), .int .i64 ((fun _ => (0 : Int)) 2), .int .i64 ((fun _ => (0 : Int)) 3), .int .i64 ((fun _ => (0 : Int)) 4), .int .i64 ((fun _ => (0 : Int)) 5), .int .i64 ((fun _ => (0 : Int)) 6), .int .i64 ((fun _ => (0 : Int)) 7), .int .i64 ((fun _ => (0 : Int)) 8), .int .i64 ((fun _ => (0 : Int)) 9), .int .i64 ((fun _ => (0 : Int)) 10), .int .i64 ((fun _ => (0 : Int)) 11)] 24)).alloc (.cells #[.int .i64 0, .int .i64 0] 33)) from bel)
  generalize World.alloc _ _ = w1 at *
  go_wp2_with fail
  go_loopw [13] (fun k wr => ∃ K : Nat, K ≤ m ∧ k = .int .i64 K ∧ Ints wr w.heap.size 12 f ∧ Ints wr (w.heap.size + 1) 12 (fun _ => 0) ∧ Ints wr (w.heap.size + 1 + 1) 2 (fun _ => 0) ∧ Below w.heap.size w wr ∧ ∀ p, p < K → l (p * 2) ≠ 1) (fun k _ => m - (intOf k).toNat)
  case atStart => exact ⟨0, by omega, rfl, HX1.out, HZ1.out, HT1.out, HB1.out, fun p hp => by omega⟩
  case round =>
    clear HX1 HZ1 HT1 HB1
    obtain ⟨K, hK, rfl, hX, hZ, hT, hb, hno⟩ := hrel
    have HB := Lib.hid hb
    have HX := Lib.hid hX
    have HZ := Lib.hid hZ
    have HT := Lib.hid hT
    have HNO := Lib.hid hno
    clear hX hZ hT hb hno
    by_cases hlt : K < m
    · have h1 : (K : Int) < m := by omega
      have h00 : (0 : Int) ≤ K := by omega
      obtain ⟨b1, o1, rfl, hl1, hc1⟩ := HL.out.some (by omega)
      obtain ⟨k0, k1⟩ := two_cells hc1 HB.out hlt
      have CC := Lib.hid (fun w => gCs_any (K : Int) w)
      have HAT := Lib.hid (HA.out K hlt)
      have hz9 : w.heap.size + 1 + 1 < wr.heap.size := HT.out.1
      clear hc1
      by_cases hk : l (K * 2) = 1
      · obtain ⟨hway, hport⟩ := HWC.out K hlt hk HNO.out
        obtain ⟨hg, hr⟩ := HRC.out hway
        rw [hport] at hg hr
        have hi := at_one' HAT.out hk
        have HG : Hid (∀ j, csK f m K m j = g j) := fun j => (HCE.out K j).trans (hg j).symm
        have HQ0 : Hid (rf 0 = 1) := (hr 0).trans hk
        have HQ1 : Hid (rf 1 = K) := (hr 1).trans hi
        rw [hk] at k0
        rw [hi] at k1
        clear hway hport hg hr hk hi HAT HWC HWN HRC HRN HCE
        have hB9 : ∃ b9, wr.heap.size = b9 := ⟨_, rfl⟩
        obtain ⟨b9, hb9⟩ := hB9
        rw [hb9] at hz9
        go_upto_region 4 with fail
        generalize hw2 : World.alloc _ _ = w2
        have HF2 := Lib.hid (show Ints w2 b9 2 (fr2 1 K) from by rw [← hw2, ← hb9]; exact Ints.two wr 1 K 33 _ rfl rfl)
        have HB2 := Lib.hid (show Below w.heap.size w w2 from by rw [← hw2]; exact kalloc HB.out _)
        have HM2 := Lib.hid (show Below wr.heap.size wr w2 from by rw [← hw2]; exact kalloc (Below.refl _ _) _)
        clear hw2 k0 k1
        refine region_below (by kernel_rfl) (by kernel_rfl) ?_; intro wR HW; have HBR := Lib.hid (show Below w.heap.size w wR from by have := HB2.out; rw [← HW.out]; exact bel); have HRW := Lib.hid (show Below w2.heap.size w2 wR from by rw [← HW.out]; exact Below.refl _ _); have HIR := Lib.hid (show Ints wR (b9) 2 (fr2 (1) (K)) from by rw [← HW.out]; exact HF2.out); have c0 := cell_regrown (show wR.cell? ⟨b9, 0, none⟩ = some (Value.int .i64 (1)) from (HIR.out.2 0 (by decide)).1); have c1 := cell_regrown (show wR.cell? ⟨b9, 1, none⟩ = some (Value.int .i64 (K)) from (HIR.out.2 1 (by decide)).1); have hzr := HIR.out.1; (repeat (first | go_big_quiet_step (with_reducible exact Calls.regrown_of (CC.out _)) | quiet_step (with_reducible exact Calls.regrown_of (CC.out _)))); refine wpQuiet_nil ?_; intro w3 hb2; have HBw3 := Lib.hid (show Below w.heap.size w w3 from by have := HBR.out; exact bthru hb2 this); have HFw3 := Lib.hid (HIR.out.below hb2); have HNw3 := Lib.hid (bthru hb2 HRW.out); clear hb2 HIR HBR c0 c1 hzr HW HRW
        have HM3 := Lib.hid (bthru HNw3.out HM2.out)
        have HX3 := Lib.hid (HX.out.below HM3.out)
        have HZ3 := Lib.hid (HZ.out.below HM3.out)
        have HT3 := Lib.hid (HT.out.below HM3.out)
        clear HX HZ HT HB HB2 HM2 HF2 HM3 HNw3
        obtain ⟨c8, f8⟩ := HX3.out.2 8 (by decide)
        obtain ⟨c9, f9⟩ := HX3.out.2 9 (by decide)
        have zx := HX3.out.1
        have HF3 := HFw3
        clear HFw3
        go_upto_region 6 with fail
        generalize hw4 : World.setCell _ _ _ = w4
        have HX4 := Lib.hid (show Ints w4 w.heap.size 12 (csK f m K 0) from by
          rw [← hw4]
          refine (HX3.out.set 8 K (by omega) (fun j => if j = 8 then (K : Int) else f j) (fun j => rfl)).set 9 0 (by omega) _ (fun j => ?_)
          unfold csK
          rw [if_neg (by omega)]
          by_cases e : j = 9
          · subst e; rfl
          · rw [if_neg e, if_neg e])
        have HZ4 := Lib.hid (show Ints w4 (w.heap.size + 1) 12 (fun _ => 0) from by rw [← hw4]; exact (HZ3.out.other _ _ _ (by omega)).other _ _ _ (by omega))
        have HT4 := Lib.hid (show Ints w4 (w.heap.size + 1 + 1) 2 (fun _ => 0) from by rw [← hw4]; exact (HT3.out.other _ _ _ (by omega)).other _ _ _ (by omega))
        have HF4 := Lib.hid (show Ints w4 b9 2 (fr2 1 K) from by rw [← hw4]; exact (HF3.out.other _ _ _ (by omega)).other _ _ _ (by omega))
        have HB4 := Lib.hid (show Below w.heap.size w w4 from by have := HBw3.out; rw [← hw4]; exact bel)
        clear hw4 HX3 HZ3 HT3 HF3 HBw3 c8 f8 c9 f9 zx
        go_wp2_with fail
        go_loopw [26] (fun q wq => ∃ Q : Nat, Q ≤ m ∧ q = .int .i64 Q ∧ Ints wq w.heap.size 12 (csK f m K Q) ∧ Ints wq (w.heap.size + 1) 12 (fun _ => 0) ∧ Ints wq (w.heap.size + 1 + 1) 2 (fun _ => 0) ∧ Ints wq b9 2 (fr2 1 K) ∧ Below w.heap.size w wq) (fun q _ => m - (intOf q).toNat)
        case atStart => exact ⟨0, by omega, rfl, HX4.out, HZ4.out, HT4.out, HF4.out, HB4.out⟩
        case round =>
          clear HX4 HZ4 HT4 HF4 HB4
          obtain ⟨Q, hQ, rfl, hX, hZ, hT, hF, hb⟩ := hrel
          have HB := Lib.hid hb
          have HX := Lib.hid hX
          have HZ := Lib.hid hZ
          have HT := Lib.hid hT
          have HF := Lib.hid hF
          clear hX hZ hT hF hb
          by_cases hq : Q < m
          · have q1 : (Q : Int) < m := by omega
            have q8 : (Q : Int) < 8 := by omega
            have q0 : (0 : Int) ≤ Q := by omega
            have HN := Lib.hid (fun j => csK_next f m K Q j)
            obtain ⟨cq, fq⟩ := HX.out.2 Q (by omega)
            have zq := HX.out.1
            go_wp2
            go_roundw
            case rel =>
              have := HB.out
              exact ⟨Q + 1, by omega, by go_num, HX.out.set Q m (by omega) _ HN.out, HZ.out.other _ _ _ (by omega), HT.out.other _ _ _ (by omega), HF.out.other _ _ _ (by omega), bel⟩
            case measure => simp [intOf]; omega
          · obtain rfl : Q = m := by omega
            have HXg := Lib.hid (HX.out.like (fun j _ => HG.out j))
            go_upto_region 11 with fail
            have H4 : Four w.heap.size b9 (w.heap.size + 1) (w.heap.size + 1 + 1) g 1 K _ := ⟨HXg.out, HF.out, ⟨_, HZ.out⟩, ⟨_, HT.out⟩⟩
            refine wp_region_held_drew (S := Four (w.heap.size) (b9) (w.heap.size + 1) (w.heap.size + 1 + 1) (g) (1) (K)) (by kernel_rfl) (Four.drew H4) (fun hS => ?_); refine anyH_load (i := 0) rfl (by kernel_rfl) (by kernel_rfl) (by kernel_rfl) _ _ (w.heap.size) 0 (hubL (g)) _ (fun _ _ _ h => h) (by rfl) rfl rfl (fun w h => hubL_row h.hub) Try.underlying24 rfl (by kernel_rfl) hS ?_; simp only [Act.put, List.getElem_toArray, List.getElem_cons_zero, List.getElem_cons_succ, List.setIfInBounds_toArray, List.set_cons_zero, List.set_cons_succ]; refine anyH_load (i := 1) rfl (by kernel_rfl) (by kernel_rfl) (by kernel_rfl) _ _ (b9) 0 (frL (1) (K)) _ (fun _ _ _ h => h) (by rfl) rfl rfl (fun w h => frL_row h.fr) Try.underlying33 rfl (by kernel_rfl) hS ?_; simp only [Act.put, List.getElem_toArray, List.getElem_cons_zero, List.getElem_cons_succ, List.setIfInBounds_toArray, List.set_cons_zero, List.set_cons_succ]; refine anyH_store (k := 2) rfl (by kernel_rfl) _ _ _ (w.heap.size + 1) 0 (hubL (g)).toArray (by rfl) rfl rfl rfl (Exists.choose_spec hS.hub2).there (by kernel_rfl) (hubL_one (g)) (hS.one (by omega) (by omega) (by omega) _) ?_; simp only [Act.put, List.getElem_toArray, List.getElem_cons_zero, List.getElem_cons_succ, List.setIfInBounds_toArray, List.set_cons_zero, List.set_cons_succ]; have hSa := hS.one (g := g) (by omega) (by omega) (by omega); have hXa := (Exists.choose_spec hS.hub2).cells12 (g); have hBa := Lib.hid (below_cells (B := w.heap.size) (b := w.heap.size + 1) (a := w) (by omega) (hubL (g)) 0 _ (kept_drew1 HB.out)); generalize hwa : World.setCells _ _ _ _ = wa at *; clear hwa; refine anyH_store (k := 3) rfl (by kernel_rfl) _ _ _ (w.heap.size + 1 + 1) 0 (frL (1) (K)).toArray (by rfl) rfl rfl rfl (Exists.choose_spec hSa.fr2).there (by kernel_rfl) (frL_one (1) (K)) (hSa.two (by omega) (by omega) (by omega) _ _) ?_; simp only [Act.put, List.getElem_toArray, List.getElem_cons_zero, List.getElem_cons_succ, List.setIfInBounds_toArray, List.set_cons_zero, List.set_cons_succ]; have hFb := (Exists.choose_spec hSa.fr2).cells2 (1) (K); have hXb := Ints.apart (w.heap.size + 1 + 1) (by omega) (frL (1) (K)) 0 _ hXa; have hBb := Lib.hid (below_cells (B := w.heap.size) (b := w.heap.size + 1 + 1) (a := w) (by omega) (frL (1) (K)) 0 _ hBa.out); have hSb := hSa.two (x := 1) (y := K) (by omega) (by omega) (by omega); generalize hwb : World.setCells _ _ _ _ = wb at *; clear hwb hSa hXa hBa; refine wpAnyH_done (by kernel_rfl) ?_ _
            go_wp2
            have hFr : Ints wb (w.heap.size + 1 + 1) 2 (fr2 (rf 0) (rf 1)) := by rw [HQ0.out, HQ1.out]; exact hFb
            refine bodyPost_ret (ret_cell2 Try.results40 (w.heap.size + 1) (hubL (g)) _ (w.heap.size + 1 + 1) (frL (rf 0) (rf 1)) _ rfl rfl (hubL_row hXb) Try.underlying24 rfl (by kernel_rfl) (frL_row hFr) Try.underlying33 rfl (by kernel_rfl)) rfl ⟨rfl, hBb.out⟩
      · have hk2 : (l (K * 2) == 1) = false := by simp [hk]
        have HK := Lib.hid hk
        clear hk HAT
        have hkk : ∃ k, l (K * 2) = k := ⟨_, rfl⟩
        obtain ⟨k, hkk⟩ := hkk
        have hii : ∃ i, l (K * 2 + 1) = i := ⟨_, rfl⟩
        obtain ⟨i, hii⟩ := hii
        rw [hkk] at k0 hk2
        rw [hii] at k1
        clear hkk hii
        have hB9 : ∃ b9, wr.heap.size = b9 := ⟨_, rfl⟩
        obtain ⟨b9, hb9⟩ := hB9
        rw [hb9] at hz9
        go_upto_region 4 with fail
        generalize hw2 : World.alloc _ _ = w2
        have HF2 := Lib.hid (show Ints w2 b9 2 (fr2 k i) from by rw [← hw2, ← hb9]; exact Ints.two wr k i 33 _ rfl rfl)
        have HB2 := Lib.hid (show Below w.heap.size w w2 from by rw [← hw2]; exact kalloc HB.out _)
        have HM2 := Lib.hid (show Below wr.heap.size wr w2 from by rw [← hw2]; exact kalloc (Below.refl _ _) _)
        clear hw2 k0 k1
        refine region_below (by kernel_rfl) (by kernel_rfl) ?_; intro wR HW; have HBR := Lib.hid (show Below w.heap.size w wR from by have := HB2.out; rw [← HW.out]; exact bel); have HRW := Lib.hid (show Below w2.heap.size w2 wR from by rw [← HW.out]; exact Below.refl _ _); have HIR := Lib.hid (show Ints wR (b9) 2 (fr2 (k) (i)) from by rw [← HW.out]; exact HF2.out); have c0 := cell_regrown (show wR.cell? ⟨b9, 0, none⟩ = some (Value.int .i64 (k)) from (HIR.out.2 0 (by decide)).1); have c1 := cell_regrown (show wR.cell? ⟨b9, 1, none⟩ = some (Value.int .i64 (i)) from (HIR.out.2 1 (by decide)).1); have hzr := HIR.out.1; (repeat (first | go_big_quiet_step (with_reducible exact Calls.regrown_of (CC.out _)) | quiet_step (with_reducible exact Calls.regrown_of (CC.out _)))); refine wpQuiet_nil ?_; intro w3 hb2; have HBw3 := Lib.hid (show Below w.heap.size w w3 from by have := HBR.out; exact bthru hb2 this); have HFw3 := Lib.hid (HIR.out.below hb2); have HNw3 := Lib.hid (bthru hb2 HRW.out); clear hb2 HIR HBR c0 c1 hzr HW HRW
        have HM3 := Lib.hid (bthru HNw3.out HM2.out)
        have HX3 := Lib.hid (HX.out.below HM3.out)
        have HZ3 := Lib.hid (HZ.out.below HM3.out)
        have HT3 := Lib.hid (HT.out.below HM3.out)
        clear HX HZ HT HB HB2 HM2 HF2 HM3 HNw3
        go_wp2
        go_roundw
        case rel =>
          refine ⟨K + 1, by omega, by go_num, HX3.out, HZ3.out, HT3.out, HBw3.out, fun p hp => ?_⟩
          by_cases e : p = K
          · subst e; exact HK.out
          · exact HNO.out p (by omega)
        case measure => simp [intOf]; omega
    · obtain rfl : K = m := by omega
      obtain ⟨hg, hr⟩ := HRN.out (HWN.out HNO.out)
      have HXg := Lib.hid (HX.out.like (g := g) (fun j _ => by rw [hg]))
      have HR0 : Hid (rf 0 = 0) := by show rf 0 = 0; rw [hr]
      have HR1 : Hid (rf 1 = 0) := by show rf 1 = 0; rw [hr]
      clear hg hr HX
      have HXg_c0 := (HXg.out.2 0 (by decide)).1; have HXg_c1 := (HXg.out.2 1 (by decide)).1; have HXg_c2 := (HXg.out.2 2 (by decide)).1; have HXg_c3 := (HXg.out.2 3 (by decide)).1; have HXg_c4 := (HXg.out.2 4 (by decide)).1; have HXg_c5 := (HXg.out.2 5 (by decide)).1; have HXg_c6 := (HXg.out.2 6 (by decide)).1; have HXg_c7 := (HXg.out.2 7 (by decide)).1; have HXg_c8 := (HXg.out.2 8 (by decide)).1; have HXg_c9 := (HXg.out.2 9 (by decide)).1; have HXg_c10 := (HXg.out.2 10 (by decide)).1; have HXg_c11 := (HXg.out.2 11 (by decide)).1; have HXg_z := HXg.out.1
      have HZ_r := HZ.out.row12; have HZ_c0 := (HZ.out.2 0 (by decide)).1; have HZ_f0 := (HZ.out.2 0 (by decide)).2; have HZ_c1 := (HZ.out.2 1 (by decide)).1; have HZ_f1 := (HZ.out.2 1 (by decide)).2; have HZ_c2 := (HZ.out.2 2 (by decide)).1; have HZ_f2 := (HZ.out.2 2 (by decide)).2; have HZ_c3 := (HZ.out.2 3 (by decide)).1; have HZ_f3 := (HZ.out.2 3 (by decide)).2; have HZ_c4 := (HZ.out.2 4 (by decide)).1; have HZ_f4 := (HZ.out.2 4 (by decide)).2; have HZ_c5 := (HZ.out.2 5 (by decide)).1; have HZ_f5 := (HZ.out.2 5 (by decide)).2; have HZ_c6 := (HZ.out.2 6 (by decide)).1; have HZ_f6 := (HZ.out.2 6 (by decide)).2; have HZ_c7 := (HZ.out.2 7 (by decide)).1; have HZ_f7 := (HZ.out.2 7 (by decide)).2; have HZ_c8 := (HZ.out.2 8 (by decide)).1; have HZ_f8 := (HZ.out.2 8 (by decide)).2; have HZ_c9 := (HZ.out.2 9 (by decide)).1; have HZ_f9 := (HZ.out.2 9 (by decide)).2; have HZ_c10 := (HZ.out.2 10 (by decide)).1; have HZ_f10 := (HZ.out.2 10 (by decide)).2; have HZ_c11 := (HZ.out.2 11 (by decide)).1; have HZ_f11 := (HZ.out.2 11 (by decide)).2; have HZ_z := HZ.out.1
      obtain ⟨a0, b0⟩ := HT.out.2 0 (by decide)
      obtain ⟨a1, b1'⟩ := HT.out.2 1 (by decide)
      have ar := HT.out.row2
      have az := HT.out.1
      have := HB.out
      go_wp2
      generalize hwf : World.setCell _ _ _ = wf
      have r1 : Ints wf (w.heap.size + 1) 12 g := by rw [← hwf]; exact ((HZ.out.set12 g).other _ _ _ (by omega)).other _ _ _ (by omega)
      have r2 : Ints wf (w.heap.size + 1 + 1) 2 (fr2 (rf 0) (rf 1)) := by rw [← hwf, HR0.out, HR1.out]; exact ((HT.out.other12 _ g (by omega)).set 0 0 (by decide) (fun j => if j = 0 then 0 else 0) (fun j => by simp)).set 1 0 (by decide) _ (fun j => by unfold fr2; simp)
      have r3 : Below w.heap.size w wf := by rw [← hwf]; exact bel
      refine bodyPost_ret (ret_cell2 Try.results40 (w.heap.size + 1) (hubL (g)) _ (w.heap.size + 1 + 1) (frL (rf 0) (rf 1)) _ rfl rfl (hubL_row r1) Try.underlying24 rfl (by kernel_rfl) (frL_row r2) Try.underlying33 rfl (by kernel_rfl)) rfl ⟨rfl, r3⟩
end Go.Proofs.Ytkdmmomfolhfbaa
namespace Go.Proofs.Ytkdmmomfolhfbaa
set_option linter.unusedVariables false
set_option linter.unusedSimpArgs false
open Go.ChangeShapes Go.WideShapes Go.RowKit

/-! The program's Relay. -/
set_option maxHeartbeats 8000000 in
theorem gRelay_any (n : Int) (f : Nat → Int) (va : Value) (m : Nat) (l : Nat → Int) (w : World) (hf : Bd12 f) (hm : m ≤ 1000) (hl : Prs w va m l) :
    Calls Try.prog 21 #[.int .i64 n, .agg #[.int .i64 (f 0), .int .i64 (f 1), .int .i64 (f 2), .int .i64 (f 3), .int .i64 (f 4), .int .i64 (f 5), .int .i64 (f 6), .int .i64 (f 7), .int .i64 (f 8), .int .i64 (f 9), .int .i64 (f 10), .int .i64 (f 11)], va] w fun e w' => e = .returned (.tuple #[.agg #[.int .i64 (relayH n f m l 0), .int .i64 (relayH n f m l 1), .int .i64 (relayH n f m l 2), .int .i64 (relayH n f m l 3), .int .i64 (relayH n f m l 4), .int .i64 (relayH n f m l 5), .int .i64 (relayH n f m l 6), .int .i64 (relayH n f m l 7), .int .i64 (relayH n f m l 8), .int .i64 (relayH n f m l 9), .int .i64 (relayH n f m l 10), .int .i64 (relayH n f m l 11)], .agg #[.int .i64 (relayF n f m l 0), .int .i64 (relayF n f m l 1)], .int .i64 (Gate.wrong n f m l)]) ∧ Below w.heap.size w w' := by
  obtain ⟨p1, c1, rfl⟩ := hl.form
  have CW := Lib.hid (fun w hl => gcheck_any n f (.slice p1 m c1) m l w hf hm hl)
  have HL := Lib.hid hl
  by_cases h : Gate.wrong n f m l = 0
  · obtain ⟨hok, hfit⟩ := Gate.wrong_of h
    have h38 := hok.1
    have hmn := hfit.2.1
    subst hmn
    rw [relayH_yes h, relayF_yes h]
    rw [h] at CW ⊢
    have CB := Lib.hid (fun w => block_val m _ (Conf.tm_yes (Conf.right_spec.2 h38)) w)
    have h10 := hok.2.2.2.2.1
    have CI := Lib.hid (fun h0 w (hl : Prs w (.slice p1 m c1) m l) => relayInfo_any m f (.slice p1 m c1) l w hm hl h h0)
    have CS := Lib.hid (fun h0 h9 w (hl : Prs w (.slice p1 m c1) m l) => relayCs_any m f (.slice p1 m c1) l w hm hl h h0 h9)
    have HNO : Hid (¬ 0 < f 10 → ¬ 2 * (m : Int) < f 9 → Gate.relay m f l m = f ∧ Gate.relayed m f l m = fun _ => 0) := fun h0 h9 => relay_none (by unfold Gate.way; rw [if_neg h0, if_neg h9])
    generalize Gate.relay m f l m = g at *
    generalize Gate.relayed m f l m = rf at *
    clear h hok hfit hf
    go_enter Try.func21, Try.ntmps21
    go_upto_region 1 with fail
    have HX0 := Lib.hid (((Ints.box w f 24).alloc (.cells #[.int .i64 ((fun _ => (0 : Int)) 0), .int .i64 ((fun _ => (0 : Int)) 1), .int .i64 ((fun _ => (0 : Int)) 2), .int .i64 ((fun _ => (0 : Int)) 3), .int .i64 ((fun _ => (0 : Int)) 4), .int .i64 ((fun _ => (0 : Int)) 5), .int .i64 ((fun _ => (0 : Int)) 6), .int .i64 ((fun _ => (0 : Int)) 7), .int .i64 ((fun _ => (0 : Int)) 8), .int .i64 ((fun _ => (0 : Int)) 9), .int .i64 ((fun _ => (0 : Int)) 10), .int .i64 ((fun _ => (0 : Int)) 11)] 24)).alloc (.cells #[.int .i64 0, .int .i64 0] 33))
    have HZ0 := Lib.hid ((Ints.zeros (w.alloc (.cells #[.int .i64 (f 0), .int .i64 (f 1), .int .i64 (f 2), .int .i64 (f 3), .int .i64 (f 4), .int .i64 (f 5), .int .i64 (f 6), .int .i64 (f 7), .int .i64 (f 8), .int .i64 (f 9), .int .i64 (f 10), .int .i64 (f 11)] 24)) 24).alloc (.cells #[.int .i64 0, .int .i64 0] 33))
    have HT0 := Lib.hid (Ints.two ((w.alloc (.cells #[.int .i64 (f 0), .int .i64 (f 1), .int .i64 (f 2), .int .i64 (f 3), .int .i64 (f 4), .int .i64 (f 5), .int .i64 (f 6), .int .i64 (f 7), .int .i64 (f 8), .int .i64 (f 9), .int .i64 (f 10), .int .i64 (f 11)] 24)).alloc (.cells #[.int .i64 ((fun _ => (0 : Int)) 0), .int .i64 ((fun _ => (0 : Int)) 1), .int .i64 ((fun _ => (0 : Int)) 2), .int .i64 ((fun _ => (0 : Int)) 3), .int .i64 ((fun _ => (0 : Int)) 4), .int .i64 ((fun _ => (0 : Int)) 5), .int .i64 ((fun _ => (0 : Int)) 6), .int .i64 ((fun _ => (0 : Int)) 7), .int .i64 ((fun _ => (0 : Int)) 8), .int .i64 ((fun _ => (0 : Int)) 9), .int .i64 ((fun _ => (0 : Int)) 10), .int .i64 ((fun _ => (0 : Int)) 11)] 24)) 0 0 33 (fun _ => 0) rfl rfl)
    simp only [World.size_alloc] at HX0 HZ0 HT0
    have HB0 := Lib.hid (show Below w.heap.size w (((w.alloc (.cells #[.int .i64 (f 0), .int .i64 (f 1), .int .i64 (f 2), .int .i64 (f 3), .int .i64 (f 4), .int .i64 (f 5), .int .i64 (f 6), .int .i64 (f 7), .int .i64 (f 8), .int .i64 (f 9), .int .i64 (f 10), .int .i64 (f 11)] 24)).alloc (.cells #[.int .i64 ((fun _ => (0 : Int)) 0), .int .i64 ((fun _ => (0 : Int)) 1), .int .i64 ((fun _ => (0 : Int)) 2), .int .i64 ((fun _ => (0 : Int)) 3), .int .i64 ((fun _ => (0 : Int)) 4), .int .i64 ((fun _ => (0 : Int)) 5), .int .i64 ((fun _ => (0 : Int)) 6), .int .i64 ((fun _ => (0 : Int)) 7), .int .i64 ((fun _ => (0 : Int)) 8), .int .i64 ((fun _ => (0 : Int)) 9), .int .i64 ((fun _ => (0 : Int)) 10), .int .i64 ((fun _ => (0 : Int)) 11)] 24)).alloc (.cells #[.int .i64 0, .int .i64 0] 33)) from bel)
    generalize World.alloc _ _ = w0 at *
    have HX0_c0 := (HX0.out.2 0 (by decide)).1; have HX0_c1 := (HX0.out.2 1 (by decide)).1; have HX0_c2 := (HX0.out.2 2 (by decide)).1; have HX0_c3 := (HX0.out.2 3 (by decide)).1; have HX0_c4 := (HX0.out.2 4 (by decide)).1; have HX0_c5 := (HX0.out.2 5 (by decide)).1; have HX0_c6 := (HX0.out.2 6 (by decide)).1; have HX0_c7 := (HX0.out.2 7 (by decide)).1; have HX0_c8 := (HX0.out.2 8 (by decide)).1; have HX0_c9 := (HX0.out.2 9 (by decide)).1; have HX0_c10 := (HX0.out.2 10 (by decide)).1; have HX0_c11 := (HX0.out.2 11 (by decide)).1; have HX0_z := HX0.out.1
    go_wp2_with fail
    refine (CW.out _ (HL.out.below HB0.out)).mono ?_; rintro e w1 ⟨rfl, hb⟩; have hz := hb.size; (try simp only [World.size_alloc, World.heap_drewN, World.size_drew, World.size_setCell] at hz)
    have HB1 := Lib.hid (show Below w.heap.size w w1 from by have := HB0.out; exact bel)
    have HX1 := Lib.hid (HX0.out.below hb)
    have HZ1 := Lib.hid (HZ0.out.below hb)
    have HT1 := Lib.hid (HT0.out.below hb)
    clear HX0_c0 HX0_c1 HX0_c2 HX0_c3 HX0_c4 HX0_c5 HX0_c6 HX0_c7 HX0_c8 HX0_c9 HX0_c10 HX0_c11 HX0_z
    clear hb HX0 HZ0 HT0 HB0
    have hz9 : w.heap.size + 1 + 1 < w1.heap.size := HT1.out.1
    have hB9 : ∃ b9, w1.heap.size = b9 := ⟨_, rfl⟩
    obtain ⟨b9, hb9⟩ := hB9
    rw [hb9] at hz9
    go_upto_region 5 with fail
    generalize hw2 : World.alloc _ _ = w2
    have HF2 := Lib.hid (show Ints w2 b9 2 (fr2 0 0) from by rw [← hw2, ← hb9]; exact Ints.two w1 0 0 33 _ rfl rfl)
    have HX2 := Lib.hid (show Ints w2 w.heap.size 12 f from by rw [← hw2]; exact HX1.out.alloc _)
    have HZ2 := Lib.hid (show Ints w2 (w.heap.size + 1) 12 (fun _ => 0) from by rw [← hw2]; exact HZ1.out.alloc _)
    have HT2 := Lib.hid (show Ints w2 (w.heap.size + 1 + 1) 2 (fun _ => 0) from by rw [← hw2]; exact HT1.out.alloc _)
    have HB2 := Lib.hid (show Below w.heap.size w w2 from by rw [← hw2]; exact kalloc HB1.out _)
    clear hw2 HX1 HZ1 HT1 HB1 hb9
    by_cases h0 : 0 < f 10
    · have CI := Lib.hid (CI.out h0)
      have HX2_c0 := (HX2.out.2 0 (by decide)).1; have HX2_c1 := (HX2.out.2 1 (by decide)).1; have HX2_c2 := (HX2.out.2 2 (by decide)).1; have HX2_c3 := (HX2.out.2 3 (by decide)).1; have HX2_c4 := (HX2.out.2 4 (by decide)).1; have HX2_c5 := (HX2.out.2 5 (by decide)).1; have HX2_c6 := (HX2.out.2 6 (by decide)).1; have HX2_c7 := (HX2.out.2 7 (by decide)).1; have HX2_c8 := (HX2.out.2 8 (by decide)).1; have HX2_c9 := (HX2.out.2 9 (by decide)).1; have HX2_c10 := (HX2.out.2 10 (by decide)).1; have HX2_c11 := (HX2.out.2 11 (by decide)).1; have HX2_z := HX2.out.1
      go_wp2_with fail
      refine (CI.out _ (HL.out.below HB2.out)).mono ?_; rintro e w3 ⟨rfl, hb⟩; have hz := hb.size; (try simp only [World.size_alloc, World.heap_drewN, World.size_drew, World.size_setCell] at hz)
      have HB3 := Lib.hid (show Below w.heap.size w w3 from by have := HB2.out; exact bel)
      have HX3 := Lib.hid (HX2.out.below hb)
      have HZ3 := Lib.hid (HZ2.out.below hb)
      have HT3 := Lib.hid (HT2.out.below hb)
      have HF3 := Lib.hid (HF2.out.below hb)
      clear HX2_c0 HX2_c1 HX2_c2 HX2_c3 HX2_c4 HX2_c5 HX2_c6 HX2_c7 HX2_c8 HX2_c9 HX2_c10 HX2_c11 HX2_z
      clear hb HX2 HZ2 HT2 HF2 HB2
      have HX3_c0 := (HX3.out.2 0 (by decide)).1; have HX3_f0 := (HX3.out.2 0 (by decide)).2; have HX3_f1 := (HX3.out.2 1 (by decide)).2; have HX3_f2 := (HX3.out.2 2 (by decide)).2; have HX3_f3 := (HX3.out.2 3 (by decide)).2; have HX3_f4 := (HX3.out.2 4 (by decide)).2; have HX3_f5 := (HX3.out.2 5 (by decide)).2; have HX3_f6 := (HX3.out.2 6 (by decide)).2; have HX3_f7 := (HX3.out.2 7 (by decide)).2; have HX3_f8 := (HX3.out.2 8 (by decide)).2; have HX3_f9 := (HX3.out.2 9 (by decide)).2; have HX3_f10 := (HX3.out.2 10 (by decide)).2; have HX3_f11 := (HX3.out.2 11 (by decide)).2; have HX3_c1 := (HX3.out.2 1 (by decide)).1; have HX3_c2 := (HX3.out.2 2 (by decide)).1; have HX3_c3 := (HX3.out.2 3 (by decide)).1; have HX3_c4 := (HX3.out.2 4 (by decide)).1; have HX3_c5 := (HX3.out.2 5 (by decide)).1; have HX3_c6 := (HX3.out.2 6 (by decide)).1; have HX3_c7 := (HX3.out.2 7 (by decide)).1; have HX3_c8 := (HX3.out.2 8 (by decide)).1; have HX3_c9 := (HX3.out.2 9 (by decide)).1; have HX3_c10 := (HX3.out.2 10 (by decide)).1; have HX3_c11 := (HX3.out.2 11 (by decide)).1; have HX3_z := HX3.out.1
      obtain ⟨a0, b0⟩ := HF3.out.2 0 (by decide)
      obtain ⟨a1, b1'⟩ := HF3.out.2 1 (by decide)
      have az := HF3.out.1
      go_upto_region 9 with fail
      generalize hw4 : World.setCell _ _ _ = w4
      have HX4 := Lib.hid (show Ints w4 w.heap.size 12 g from by rw [← hw4]; exact ((HX3.out.set12 g).other _ _ _ (by omega)).other _ _ _ (by omega))
      have HZ4 := Lib.hid (show Ints w4 (w.heap.size + 1) 12 (fun _ => 0) from by rw [← hw4]; exact ((HZ3.out.other12 _ g (by omega)).other _ _ _ (by omega)).other _ _ _ (by omega))
      have HT4 := Lib.hid (show Ints w4 (w.heap.size + 1 + 1) 2 (fun _ => 0) from by rw [← hw4]; exact ((HT3.out.other12 _ g (by omega)).other _ _ _ (by omega)).other _ _ _ (by omega))
      have HF4 := Lib.hid (show Ints w4 b9 2 (fr2 (rf 0) (rf 1)) from by rw [← hw4]; exact (HF3.out.other12 _ g (by omega)).cells2 (rf 0) (rf 1))
      have HB4 := Lib.hid (show Below w.heap.size w w4 from by have := HB3.out; rw [← hw4]; exact bel)
      clear hw4 HX3 HZ3 HT3 HF3 HB3
      have H4 : Four w.heap.size b9 (w.heap.size + 1) (w.heap.size + 1 + 1) g (rf 0) (rf 1) w4 := ⟨HX4.out, HF4.out, ⟨_, HZ4.out⟩, ⟨_, HT4.out⟩⟩
      refine wp_region_held_drew (S := Four (w.heap.size) (b9) (w.heap.size + 1) (w.heap.size + 1 + 1) (g) (rf 0) (rf 1)) (by kernel_rfl) (Four.drew H4) (fun hS => ?_); refine anyH_load (i := 0) rfl (by kernel_rfl) (by kernel_rfl) (by kernel_rfl) _ _ (w.heap.size) 0 (hubL (g)) _ (fun _ _ _ h => h) (by rfl) rfl rfl (fun w h => hubL_row h.hub) Try.underlying24 rfl (by kernel_rfl) hS ?_; simp only [Act.put, List.getElem_toArray, List.getElem_cons_zero, List.getElem_cons_succ, List.setIfInBounds_toArray, List.set_cons_zero, List.set_cons_succ]; refine anyH_load (i := 1) rfl (by kernel_rfl) (by kernel_rfl) (by kernel_rfl) _ _ (b9) 0 (frL (rf 0) (rf 1)) _ (fun _ _ _ h => h) (by rfl) rfl rfl (fun w h => frL_row h.fr) Try.underlying33 rfl (by kernel_rfl) hS ?_; simp only [Act.put, List.getElem_toArray, List.getElem_cons_zero, List.getElem_cons_succ, List.setIfInBounds_toArray, List.set_cons_zero, List.set_cons_succ]; refine anyH_store (k := 2) rfl (by kernel_rfl) _ _ _ (w.heap.size + 1) 0 (hubL (g)).toArray (by rfl) rfl rfl rfl (Exists.choose_spec hS.hub2).there (by kernel_rfl) (hubL_one (g)) (hS.one (by omega) (by omega) (by omega) _) ?_; simp only [Act.put, List.getElem_toArray, List.getElem_cons_zero, List.getElem_cons_succ, List.setIfInBounds_toArray, List.set_cons_zero, List.set_cons_succ]; have hSa := hS.one (g := g) (by omega) (by omega) (by omega); have hXa := (Exists.choose_spec hS.hub2).cells12 (g); have hBa := Lib.hid (below_cells (B := w.heap.size) (b := w.heap.size + 1) (a := w) (by omega) (hubL (g)) 0 _ (kept_drew1 HB4.out)); generalize hwa : World.setCells _ _ _ _ = wa at *; clear hwa; refine anyH_store (k := 3) rfl (by kernel_rfl) _ _ _ (w.heap.size + 1 + 1) 0 (frL (rf 0) (rf 1)).toArray (by rfl) rfl rfl rfl (Exists.choose_spec hSa.fr2).there (by kernel_rfl) (frL_one (rf 0) (rf 1)) (hSa.two (by omega) (by omega) (by omega) _ _) ?_; simp only [Act.put, List.getElem_toArray, List.getElem_cons_zero, List.getElem_cons_succ, List.setIfInBounds_toArray, List.set_cons_zero, List.set_cons_succ]; have hFb := (Exists.choose_spec hSa.fr2).cells2 (rf 0) (rf 1); have hXb := Ints.apart (w.heap.size + 1 + 1) (by omega) (frL (rf 0) (rf 1)) 0 _ hXa; have hBb := Lib.hid (below_cells (B := w.heap.size) (b := w.heap.size + 1 + 1) (a := w) (by omega) (frL (rf 0) (rf 1)) 0 _ hBa.out); have hSb := hSa.two (x := rf 0) (y := rf 1) (by omega) (by omega) (by omega); generalize hwb : World.setCells _ _ _ _ = wb at *; clear hwb hSa hXa hBa; refine wpAnyH_take (i := 4) (v := .int .i64 0) rfl (by kernel_rfl) (by kernel_rfl) (by kernel_rfl) (fun _ _ _ h => h) (Or.inl ⟨by rfl, fun w _ => rfl⟩) hSb ?_; simp only [Act.put, List.getElem_toArray, List.getElem_cons_zero, List.getElem_cons_succ, List.setIfInBounds_toArray, List.set_cons_zero, List.set_cons_succ]; refine wpAnyH_done (by kernel_rfl) ?_ _
      go_wp2
      refine bodyPost_ret (ret_cell2_tmp Try.results21 (w.heap.size + 1) (hubL (g)) _ (w.heap.size + 1 + 1) (frL (rf 0) (rf 1)) _ rfl rfl (hubL_row hXb) Try.underlying24 rfl (by kernel_rfl) (frL_row hFb) Try.underlying33 rfl (by kernel_rfl)) rfl ⟨rfl, hBb.out⟩
    · have hd0 : decide (0 < f 10) = false := decide_eq_false h0
      have c10 := (HX2.out.2 10 (by decide)).1
      have zx := HX2.out.1
      go_upto_region 7 with fail
      clear c10 hd0
      refine region_below (by kernel_rfl) (by kernel_rfl) ?_; intro wR HW
      have HBR := Lib.hid (show Below w.heap.size w wR from by rw [← HW.out]; exact HB2.out)
      have HFR := Lib.hid (show Ints wR b9 2 (fr2 0 0) from by rw [← HW.out]; exact HF2.out)
      have HXR := Lib.hid (show Ints wR w.heap.size 12 f from by rw [← HW.out]; exact HX2.out)
      have HZR := Lib.hid (show Ints wR (w.heap.size + 1) 12 (fun _ => 0) from by rw [← HW.out]; exact HZ2.out)
      have HTR := Lib.hid (show Ints wR (w.heap.size + 1 + 1) 2 (fun _ => 0) from by rw [← HW.out]; exact HT2.out)
      clear HW HB2 HF2 HX2 HZ2 HT2
      have c9 := cell_regrown (HXR.out.2 9 (by decide)).1
      (repeat (first | go_big_quiet_step (with_reducible exact Calls.regrown_of (CB.out _)) | quiet_step (with_reducible exact Calls.regrown_of (CB.out _)))); refine wpQuiet_nil ?_; intro w2 hb2
      have HB2 := Lib.hid (show Below w.heap.size w w2 from by have := HBR.out; exact bthru hb2 this)
      have HF2 := Lib.hid (HFR.out.below hb2)
      have HX2 := Lib.hid (HXR.out.below hb2)
      have HZ2 := Lib.hid (HZR.out.below hb2)
      have HT2 := Lib.hid (HTR.out.below hb2)
      clear hb2 HBR HFR HXR HZR HTR c9 zx
      by_cases h9 : 2 * (m : Int) < f 9
      · have CS := Lib.hid (CS.out (by omega) (by omega))
        clear h0
        have HX2_c0 := (HX2.out.2 0 (by decide)).1; have HX2_c1 := (HX2.out.2 1 (by decide)).1; have HX2_c2 := (HX2.out.2 2 (by decide)).1; have HX2_c3 := (HX2.out.2 3 (by decide)).1; have HX2_c4 := (HX2.out.2 4 (by decide)).1; have HX2_c5 := (HX2.out.2 5 (by decide)).1; have HX2_c6 := (HX2.out.2 6 (by decide)).1; have HX2_c7 := (HX2.out.2 7 (by decide)).1; have HX2_c8 := (HX2.out.2 8 (by decide)).1; have HX2_c9 := (HX2.out.2 9 (by decide)).1; have HX2_c10 := (HX2.out.2 10 (by decide)).1; have HX2_c11 := (HX2.out.2 11 (by decide)).1; have HX2_z := HX2.out.1
        go_wp2_with fail
        refine (CS.out _ (HL.out.below HB2.out)).mono ?_; rintro e w3 ⟨rfl, hb⟩; have hz := hb.size; (try simp only [World.size_alloc, World.heap_drewN, World.size_drew, World.size_setCell] at hz)
        have HB3 := Lib.hid (show Below w.heap.size w w3 from by have := HB2.out; exact bel)
        have HX3 := Lib.hid (HX2.out.below hb)
        have HZ3 := Lib.hid (HZ2.out.below hb)
        have HT3 := Lib.hid (HT2.out.below hb)
        have HF3 := Lib.hid (HF2.out.below hb)
        clear HX2_c0 HX2_c1 HX2_c2 HX2_c3 HX2_c4 HX2_c5 HX2_c6 HX2_c7 HX2_c8 HX2_c9 HX2_c10 HX2_c11 HX2_z
        clear hb HX2 HZ2 HT2 HF2 HB2
        have HX3_c0 := (HX3.out.2 0 (by decide)).1; have HX3_f0 := (HX3.out.2 0 (by decide)).2; have HX3_f1 := (HX3.out.2 1 (by decide)).2; have HX3_f2 := (HX3.out.2 2 (by decide)).2; have HX3_f3 := (HX3.out.2 3 (by decide)).2; have HX3_f4 := (HX3.out.2 4 (by decide)).2; have HX3_f5 := (HX3.out.2 5 (by decide)).2; have HX3_f6 := (HX3.out.2 6 (by decide)).2; have HX3_f7 := (HX3.out.2 7 (by decide)).2; have HX3_f8 := (HX3.out.2 8 (by decide)).2; have HX3_f9 := (HX3.out.2 9 (by decide)).2; have HX3_f10 := (HX3.out.2 10 (by decide)).2; have HX3_f11 := (HX3.out.2 11 (by decide)).2; have HX3_c1 := (HX3.out.2 1 (by decide)).1; have HX3_c2 := (HX3.out.2 2 (by decide)).1; have HX3_c3 := (HX3.out.2 3 (by decide)).1; have HX3_c4 := (HX3.out.2 4 (by decide)).1; have HX3_c5 := (HX3.out.2 5 (by decide)).1; have HX3_c6 := (HX3.out.2 6 (by decide)).1; have HX3_c7 := (HX3.out.2 7 (by decide)).1; have HX3_c8 := (HX3.out.2 8 (by decide)).1; have HX3_c9 := (HX3.out.2 9 (by decide)).1; have HX3_c10 := (HX3.out.2 10 (by decide)).1; have HX3_c11 := (HX3.out.2 11 (by decide)).1; have HX3_z := HX3.out.1
        obtain ⟨a0, b0⟩ := HF3.out.2 0 (by decide)
        obtain ⟨a1, b1'⟩ := HF3.out.2 1 (by decide)
        have az := HF3.out.1
        go_upto_region 9 with fail
        generalize hw4 : World.setCell _ _ _ = w4
        have HX4 := Lib.hid (show Ints w4 w.heap.size 12 g from by rw [← hw4]; exact ((HX3.out.set12 g).other _ _ _ (by omega)).other _ _ _ (by omega))
        have HZ4 := Lib.hid (show Ints w4 (w.heap.size + 1) 12 (fun _ => 0) from by rw [← hw4]; exact ((HZ3.out.other12 _ g (by omega)).other _ _ _ (by omega)).other _ _ _ (by omega))
        have HT4 := Lib.hid (show Ints w4 (w.heap.size + 1 + 1) 2 (fun _ => 0) from by rw [← hw4]; exact ((HT3.out.other12 _ g (by omega)).other _ _ _ (by omega)).other _ _ _ (by omega))
        have HF4 := Lib.hid (show Ints w4 b9 2 (fr2 (rf 0) (rf 1)) from by rw [← hw4]; exact (HF3.out.other12 _ g (by omega)).cells2 (rf 0) (rf 1))
        have HB4 := Lib.hid (show Below w.heap.size w w4 from by have := HB3.out; rw [← hw4]; exact bel)
        clear hw4 HX3 HZ3 HT3 HF3 HB3
        have H4 : Four w.heap.size b9 (w.heap.size + 1) (w.heap.size + 1 + 1) g (rf 0) (rf 1) w4 := ⟨HX4.out, HF4.out, ⟨_, HZ4.out⟩, ⟨_, HT4.out⟩⟩
        refine wp_region_held_drew (S := Four (w.heap.size) (b9) (w.heap.size + 1) (w.heap.size + 1 + 1) (g) (rf 0) (rf 1)) (by kernel_rfl) (Four.drew H4) (fun hS => ?_); refine anyH_load (i := 0) rfl (by kernel_rfl) (by kernel_rfl) (by kernel_rfl) _ _ (w.heap.size) 0 (hubL (g)) _ (fun _ _ _ h => h) (by rfl) rfl rfl (fun w h => hubL_row h.hub) Try.underlying24 rfl (by kernel_rfl) hS ?_; simp only [Act.put, List.getElem_toArray, List.getElem_cons_zero, List.getElem_cons_succ, List.setIfInBounds_toArray, List.set_cons_zero, List.set_cons_succ]; refine anyH_load (i := 1) rfl (by kernel_rfl) (by kernel_rfl) (by kernel_rfl) _ _ (b9) 0 (frL (rf 0) (rf 1)) _ (fun _ _ _ h => h) (by rfl) rfl rfl (fun w h => frL_row h.fr) Try.underlying33 rfl (by kernel_rfl) hS ?_; simp only [Act.put, List.getElem_toArray, List.getElem_cons_zero, List.getElem_cons_succ, List.setIfInBounds_toArray, List.set_cons_zero, List.set_cons_succ]; refine anyH_store (k := 2) rfl (by kernel_rfl) _ _ _ (w.heap.size + 1) 0 (hubL (g)).toArray (by rfl) rfl rfl rfl (Exists.choose_spec hS.hub2).there (by kernel_rfl) (hubL_one (g)) (hS.one (by omega) (by omega) (by omega) _) ?_; simp only [Act.put, List.getElem_toArray, List.getElem_cons_zero, List.getElem_cons_succ, List.setIfInBounds_toArray, List.set_cons_zero, List.set_cons_succ]; have hSa := hS.one (g := g) (by omega) (by omega) (by omega); have hXa := (Exists.choose_spec hS.hub2).cells12 (g); have hBa := Lib.hid (below_cells (B := w.heap.size) (b := w.heap.size + 1) (a := w) (by omega) (hubL (g)) 0 _ (kept_drew1 HB4.out)); generalize hwa : World.setCells _ _ _ _ = wa at *; clear hwa; refine anyH_store (k := 3) rfl (by kernel_rfl) _ _ _ (w.heap.size + 1 + 1) 0 (frL (rf 0) (rf 1)).toArray (by rfl) rfl rfl rfl (Exists.choose_spec hSa.fr2).there (by kernel_rfl) (frL_one (rf 0) (rf 1)) (hSa.two (by omega) (by omega) (by omega) _ _) ?_; simp only [Act.put, List.getElem_toArray, List.getElem_cons_zero, List.getElem_cons_succ, List.setIfInBounds_toArray, List.set_cons_zero, List.set_cons_succ]; have hFb := (Exists.choose_spec hSa.fr2).cells2 (rf 0) (rf 1); have hXb := Ints.apart (w.heap.size + 1 + 1) (by omega) (frL (rf 0) (rf 1)) 0 _ hXa; have hBb := Lib.hid (below_cells (B := w.heap.size) (b := w.heap.size + 1 + 1) (a := w) (by omega) (frL (rf 0) (rf 1)) 0 _ hBa.out); have hSb := hSa.two (x := rf 0) (y := rf 1) (by omega) (by omega) (by omega); generalize hwb : World.setCells _ _ _ _ = wb at *; clear hwb hSa hXa hBa; refine wpAnyH_take (i := 4) (v := .int .i64 0) rfl (by kernel_rfl) (by kernel_rfl) (by kernel_rfl) (fun _ _ _ h => h) (Or.inl ⟨by rfl, fun w _ => rfl⟩) hSb ?_; simp only [Act.put, List.getElem_toArray, List.getElem_cons_zero, List.getElem_cons_succ, List.setIfInBounds_toArray, List.set_cons_zero, List.set_cons_succ]; refine wpAnyH_done (by kernel_rfl) ?_ _
        go_wp2
        refine bodyPost_ret (ret_cell2_tmp Try.results21 (w.heap.size + 1) (hubL (g)) _ (w.heap.size + 1 + 1) (frL (rf 0) (rf 1)) _ rfl rfl (hubL_row hXb) Try.underlying24 rfl (by kernel_rfl) (frL_row hFb) Try.underlying33 rfl (by kernel_rfl)) rfl ⟨rfl, hBb.out⟩
      · obtain ⟨hg, hr⟩ := HNO.out (by omega) (by omega)
        have HXg := Lib.hid (HX2.out.like (g := g) (fun j _ => by rw [hg]))
        have HFg := Lib.hid (show Ints w2 b9 2 (fr2 (rf 0) (rf 1)) from by rw [hr]; exact HF2.out)
        clear h0 hg hr HX2 HF2
        go_upto_region 9 with fail
        have H4 : Four w.heap.size b9 (w.heap.size + 1) (w.heap.size + 1 + 1) g (rf 0) (rf 1) _ := ⟨HXg.out, HFg.out, ⟨_, HZ2.out⟩, ⟨_, HT2.out⟩⟩
        refine wp_region_held_drew (S := Four (w.heap.size) (b9) (w.heap.size + 1) (w.heap.size + 1 + 1) (g) (rf 0) (rf 1)) (by kernel_rfl) (Four.drew H4) (fun hS => ?_); refine anyH_load (i := 0) rfl (by kernel_rfl) (by kernel_rfl) (by kernel_rfl) _ _ (w.heap.size) 0 (hubL (g)) _ (fun _ _ _ h => h) (by rfl) rfl rfl (fun w h => hubL_row h.hub) Try.underlying24 rfl (by kernel_rfl) hS ?_; simp only [Act.put, List.getElem_toArray, List.getElem_cons_zero, List.getElem_cons_succ, List.setIfInBounds_toArray, List.set_cons_zero, List.set_cons_succ]; refine anyH_load (i := 1) rfl (by kernel_rfl) (by kernel_rfl) (by kernel_rfl) _ _ (b9) 0 (frL (rf 0) (rf 1)) _ (fun _ _ _ h => h) (by rfl) rfl rfl (fun w h => frL_row h.fr) Try.underlying33 rfl (by kernel_rfl) hS ?_; simp only [Act.put, List.getElem_toArray, List.getElem_cons_zero, List.getElem_cons_succ, List.setIfInBounds_toArray, List.set_cons_zero, List.set_cons_succ]; refine anyH_store (k := 2) rfl (by kernel_rfl) _ _ _ (w.heap.size + 1) 0 (hubL (g)).toArray (by rfl) rfl rfl rfl (Exists.choose_spec hS.hub2).there (by kernel_rfl) (hubL_one (g)) (hS.one (by omega) (by omega) (by omega) _) ?_; simp only [Act.put, List.getElem_toArray, List.getElem_cons_zero, List.getElem_cons_succ, List.setIfInBounds_toArray, List.set_cons_zero, List.set_cons_succ]; have hSa := hS.one (g := g) (by omega) (by omega) (by omega); have hXa := (Exists.choose_spec hS.hub2).cells12 (g); have hBa := Lib.hid (below_cells (B := w.heap.size) (b := w.heap.size + 1) (a := w) (by omega) (hubL (g)) 0 _ (kept_drew1 HB2.out)); generalize hwa : World.setCells _ _ _ _ = wa at *; clear hwa; refine anyH_store (k := 3) rfl (by kernel_rfl) _ _ _ (w.heap.size + 1 + 1) 0 (frL (rf 0) (rf 1)).toArray (by rfl) rfl rfl rfl (Exists.choose_spec hSa.fr2).there (by kernel_rfl) (frL_one (rf 0) (rf 1)) (hSa.two (by omega) (by omega) (by omega) _ _) ?_; simp only [Act.put, List.getElem_toArray, List.getElem_cons_zero, List.getElem_cons_succ, List.setIfInBounds_toArray, List.set_cons_zero, List.set_cons_succ]; have hFb := (Exists.choose_spec hSa.fr2).cells2 (rf 0) (rf 1); have hXb := Ints.apart (w.heap.size + 1 + 1) (by omega) (frL (rf 0) (rf 1)) 0 _ hXa; have hBb := Lib.hid (below_cells (B := w.heap.size) (b := w.heap.size + 1 + 1) (a := w) (by omega) (frL (rf 0) (rf 1)) 0 _ hBa.out); have hSb := hSa.two (x := rf 0) (y := rf 1) (by omega) (by omega) (by omega); generalize hwb : World.setCells _ _ _ _ = wb at *; clear hwb hSa hXa hBa; refine wpAnyH_take (i := 4) (v := .int .i64 0) rfl (by kernel_rfl) (by kernel_rfl) (by kernel_rfl) (fun _ _ _ h => h) (Or.inl ⟨by rfl, fun w _ => rfl⟩) hSb ?_; simp only [Act.put, List.getElem_toArray, List.getElem_cons_zero, List.getElem_cons_succ, List.setIfInBounds_toArray, List.set_cons_zero, List.set_cons_succ]; refine wpAnyH_done (by kernel_rfl) ?_ _
        go_wp2
        refine bodyPost_ret (ret_cell2_tmp Try.results21 (w.heap.size + 1) (hubL (g)) _ (w.heap.size + 1 + 1) (frL (rf 0) (rf 1)) _ rfl rfl (hubL_row hXb) Try.underlying24 rfl (by kernel_rfl) (frL_row hFb) Try.underlying33 rfl (by kernel_rfl)) rfl ⟨rfl, hBb.out⟩
  · have HX := Lib.hid (fun j => relayH_no h j)
    have HF := Lib.hid (fun j => relayF_no h j)
    simp only [relayH_no h, relayF_no h]
    generalize Gate.wrong n f m l = er at *
    have e0 : (er != 0) = true := by simp [h]
    clear h hl hf
    go_enter Try.func21, Try.ntmps21
    go_wp2_with fail
    have HZ0 := Lib.hid ((Ints.zeros (w.alloc (.cells #[.int .i64 (f 0), .int .i64 (f 1), .int .i64 (f 2), .int .i64 (f 3), .int .i64 (f 4), .int .i64 (f 5), .int .i64 (f 6), .int .i64 (f 7), .int .i64 (f 8), .int .i64 (f 9), .int .i64 (f 10), .int .i64 (f 11)] 24)) 24).alloc (.cells #[.int .i64 0, .int .i64 0] 33))
    have HT0 := Lib.hid (Ints.two ((w.alloc (.cells #[.int .i64 (f 0), .int .i64 (f 1), .int .i64 (f 2), .int .i64 (f 3), .int .i64 (f 4), .int .i64 (f 5), .int .i64 (f 6), .int .i64 (f 7), .int .i64 (f 8), .int .i64 (f 9), .int .i64 (f 10), .int .i64 (f 11)] 24)).alloc (.cells #[.int .i64 ((fun _ => (0 : Int)) 0), .int .i64 ((fun _ => (0 : Int)) 1), .int .i64 ((fun _ => (0 : Int)) 2), .int .i64 ((fun _ => (0 : Int)) 3), .int .i64 ((fun _ => (0 : Int)) 4), .int .i64 ((fun _ => (0 : Int)) 5), .int .i64 ((fun _ => (0 : Int)) 6), .int .i64 ((fun _ => (0 : Int)) 7), .int .i64 ((fun _ => (0 : Int)) 8), .int .i64 ((fun _ => (0 : Int)) 9), .int .i64 ((fun _ => (0 : Int)) 10), .int .i64 ((fun _ => (0 : Int)) 11)] 24)) 0 0 33 (fun _ => 0) rfl rfl)
    simp only [World.size_alloc] at HZ0 HT0
    refine (CW.out _ (HL.out.below bel)).mono ?_
    rintro e w1 ⟨rfl, hb⟩
    have hz := hb.size
    (try simp only [World.size_alloc, World.heap_drewN, World.size_drew, World.size_setCell] at hz)
    have HB1 := Lib.hid (show Below w.heap.size w w1 from bel)
    have HZ1 := Lib.hid (HZ0.out.below hb)
    have HT1 := Lib.hid (HT0.out.below hb)
    clear hb HZ0 HT0
    have HZ1_r := HZ1.out.row12; have HZ1_c0 := (HZ1.out.2 0 (by decide)).1; have HZ1_f0 := (HZ1.out.2 0 (by decide)).2; have HZ1_c1 := (HZ1.out.2 1 (by decide)).1; have HZ1_f1 := (HZ1.out.2 1 (by decide)).2; have HZ1_c2 := (HZ1.out.2 2 (by decide)).1; have HZ1_f2 := (HZ1.out.2 2 (by decide)).2; have HZ1_c3 := (HZ1.out.2 3 (by decide)).1; have HZ1_f3 := (HZ1.out.2 3 (by decide)).2; have HZ1_c4 := (HZ1.out.2 4 (by decide)).1; have HZ1_f4 := (HZ1.out.2 4 (by decide)).2; have HZ1_c5 := (HZ1.out.2 5 (by decide)).1; have HZ1_f5 := (HZ1.out.2 5 (by decide)).2; have HZ1_c6 := (HZ1.out.2 6 (by decide)).1; have HZ1_f6 := (HZ1.out.2 6 (by decide)).2; have HZ1_c7 := (HZ1.out.2 7 (by decide)).1; have HZ1_f7 := (HZ1.out.2 7 (by decide)).2; have HZ1_c8 := (HZ1.out.2 8 (by decide)).1; have HZ1_f8 := (HZ1.out.2 8 (by decide)).2; have HZ1_c9 := (HZ1.out.2 9 (by decide)).1; have HZ1_f9 := (HZ1.out.2 9 (by decide)).2; have HZ1_c10 := (HZ1.out.2 10 (by decide)).1; have HZ1_f10 := (HZ1.out.2 10 (by decide)).2; have HZ1_c11 := (HZ1.out.2 11 (by decide)).1; have HZ1_f11 := (HZ1.out.2 11 (by decide)).2; have HZ1_z := HZ1.out.1
    obtain ⟨a0, b0⟩ := HT1.out.2 0 (by decide)
    obtain ⟨a1, b1'⟩ := HT1.out.2 1 (by decide)
    have ar := HT1.out.row2
    have az := HT1.out.1
    have := HB1.out
    go_wp2
    generalize hwf : World.setCell _ _ _ = wf
    have r1 : Ints wf (w.heap.size + 1) 12 (fun _ => 0) := by rw [← hwf]; exact ((HZ1.out.set12 (fun _ => 0)).other _ _ _ (by omega)).other _ _ _ (by omega)
    have r2 : Ints wf (w.heap.size + 1 + 1) 2 (fr2 0 0) := by rw [← hwf]; exact (HT1.out.other12 _ (fun _ => 0) (by omega)).cells2 0 0
    have r3 : Below w.heap.size w wf := by rw [← hwf]; exact bel
    refine bodyPost_ret (ret_cell2_tmp Try.results21 (w.heap.size + 1) (hubL ((fun _ => 0))) _ (w.heap.size + 1 + 1) (frL (0) (0)) _ rfl rfl (hubL_row r1) Try.underlying24 rfl (by kernel_rfl) (frL_row r2) Try.underlying33 rfl (by kernel_rfl)) rfl ⟨rfl, r3⟩
end Go.Proofs.Ytkdmmomfolhfbaa
