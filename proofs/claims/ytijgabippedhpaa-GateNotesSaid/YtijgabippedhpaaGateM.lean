
import Derived.Test.YtijgabippedhpaaRows
import Derived.Test.YtijgabippedhpaaGateL
namespace Go.Proofs.Ytijgabippedhpaa
set_option linter.unusedVariables false
set_option linter.unusedSimpArgs false
open Go.ChangeShapes Go.WideShapes Go.RowKit

theorem way_one {m : Nat} {f l : Nat → Int} (hok : Vote.Ok m f) (hfit : Gate.Fits m m l) (h : Gate.way m f l m = 1) : 0 < f 10 ∧ (f 11).toNat < m ∧ Gate.port f l m = (f 11).toNat ∧ l ((f 11).toNat * 2) = 2 ∧ l ((f 11).toNat * 2 + 1) = f 11 := by
  have h11 := hok.2.2.2.2.2
  unfold Gate.way at h
  by_cases q : 0 < f 10
  · rw [if_pos q] at h
    by_cases r : l ((f 11).toNat * 2) = 2
    · have hP : (f 11).toNat < m := by omega
      refine ⟨q, hP, by unfold Gate.port; rw [if_pos q], r, ?_⟩
      rcases hfit.2.2 _ hP with ⟨h1, -⟩ | ⟨-, h2⟩
      · omega
      · omega
    · rw [if_neg r] at h; omega
  · rw [if_neg q] at h
    split at h
    · split at h <;> omega
    · omega
theorem way_two {m : Nat} {f l : Nat → Int} (hok : Vote.Ok m f) (hfit : Gate.Fits m m l) (h : Gate.way m f l m = 2) : f 10 = 0 ∧ 2 * (m : Int) < f 9 ∧ ∃ K : Nat, K < m ∧ Gate.port f l m = K ∧ l (K * 2) = 1 ∧ l (K * 2 + 1) = K := by
  have h10 := hok.2.2.2.2.1
  unfold Gate.way at h
  by_cases q : 0 < f 10
  · rw [if_pos q] at h
    split at h <;> omega
  · rw [if_neg q] at h
    by_cases r : 2 * (m : Int) < f 9
    · rw [if_pos r] at h
      by_cases s : Gate.first l m m < m
      · have h1 := Gate.first_cs l m m (Nat.le_refl _) s
        refine ⟨by omega, r, _, s, by unfold Gate.port; rw [if_neg q], h1, ?_⟩
        rcases hfit.2.2 _ s with ⟨h2, -⟩ | ⟨-, h2⟩
        · omega
        · exact h2
      · rw [if_neg s] at h; omega
    · rw [if_neg r] at h; omega
theorem way_all (n : Int) (f l : Nat → Int) (m : Nat) : Gate.way n f l m = 0 ∨ Gate.way n f l m = 1 ∨ Gate.way n f l m = 2 := by
  unfold Gate.way
  by_cases a : 0 < f 10
  · rw [if_pos a]
    by_cases b : l ((f 11).toNat * 2) = 2
    · rw [if_pos b]; omega
    · rw [if_neg b]; omega
  · rw [if_neg a]
    by_cases b : 2 * n < f 9
    · rw [if_pos b]
      by_cases c : Gate.first l m m < m
      · rw [if_pos c]; omega
      · rw [if_neg c]; omega
    · rw [if_neg b]; omega
set_option maxHeartbeats 4000000 in
theorem gateHolds_info (hF : CGFits) (hS : CGSettle) (hR : CGRelay) (n : Nat) (hn : n < 256) (m : Nat) (hM : 3 + (n : Int) % 6 = m) (f : Nat → Int) (hf : Bd12 f) (va : Value) (l : Nat → Int) (w : World) (hl : Prs w va m l) (hok : Vote.Ok m f) (hfit : Gate.Fits m m l) (hway : Gate.way m f l m = 1) :
    Calls Try.prog 4 #[.int .u8 n, .agg #[.int .i64 (f 0), .int .i64 (f 1), .int .i64 (f 2), .int .i64 (f 3), .int .i64 (f 4), .int .i64 (f 5), .int .i64 (f 6), .int .i64 (f 7), .int .i64 (f 8), .int .i64 (f 9), .int .i64 (f 10), .int .i64 (f 11)], va] w fun e w' => e = .returned (.bool true) ∧ Below w.heap.size w w' := by
  obtain ⟨p1, c1, rfl⟩ := hl.form
  have h38 := hok.1
  have AW := Lib.hid (awake12_of hF hS hR)
  have bm : Bd (m : Int) := by unfold Bd; omega
  have h0w := Gate.wrong_zero hok hfit
  have RL := Lib.hid (fun w hl => hR m f (.slice p1 m c1) m l w bm hf (by omega) hl)
  rw [h0w, relayH_yes h0w, relayF_yes h0w] at RL
  have RR := Lib.hid (fun w => refVRight_any m f w)
  rw [Vote.ok_iff.2 hok] at RR
  have RX := Lib.hid (fun w => refVRight_any m (Gate.relay m f l m) w)
  rw [Vote.ok_iff.2 (Gate.ok_relay (l := l) (m := m) hok rfl)] at RX
  have FF := Lib.hid (fun w hl => refGFits_any m (.slice p1 m c1) m l w (by unfold maxLen; omega) hl)
  rw [Gate.fits_iff.2 hfit] at FF
  obtain ⟨hg, hr⟩ := relay_info hway
  obtain ⟨h0, hPm, hport, hk0, hk1⟩ := way_one hok hfit hway
  have e0 : Gate.relayed m f l m 0 = 2 := by rw [hr 0, hport]; exact hk0
  have e1 : Gate.relayed m f l m 1 = f 11 := by rw [hr 1, hport]; exact hk1
  rw [e0, e1] at RL
  have HG := Lib.hid hg
  have HK0 := Lib.hid hk0
  have HK1 := Lib.hid hk1
  have hI0 : 0 ≤ f 11 := hok.2.2.2.2.2.1
  have hI : f 11 < m := by have := hok.2.2.2.2.2.2; omega
  clear hk0 hk1 hr hport e0 e1
  generalize Gate.relay m f l m = x at *
  have HL := Lib.hid hl
  clear hF hS hR bm h0w hok hfit hl hf hway hg
  go_enter Try.func4, Try.ntmps4
  go_wp2_with fail
  have hlen : ¬ (20 : Int) < m := by omega
  have HX0 := Lib.hid (Ints.box w f 24)
  refine (RR.out _).mono ?_; rintro e w1 ⟨rfl, hb⟩; have hz := hb.size; (try simp only [World.size_alloc, World.heap_drewN, World.size_drew, World.size_setCell] at hz)
  have HB1 := Lib.hid (show Below w.heap.size w w1 from bel)
  have HX1 := Lib.hid (HX0.out.below hb)
  clear hb HX0
  go_wp2_with fail
  refine (FF.out _ (HL.out.below HB1.out)).mono ?_; rintro e w2 ⟨rfl, hb⟩; have hz := hb.size; (try simp only [World.size_alloc, World.heap_drewN, World.size_drew, World.size_setCell] at hz)
  have HB2 := Lib.hid (show Below w.heap.size w w2 from by have := HB1.out; exact bel)
  have HX2 := Lib.hid (HX1.out.below hb)
  clear hb HX1 HB1
  have HX2_c0 := (HX2.out.2 0 (by decide)).1; have HX2_c1 := (HX2.out.2 1 (by decide)).1; have HX2_c2 := (HX2.out.2 2 (by decide)).1; have HX2_c3 := (HX2.out.2 3 (by decide)).1; have HX2_c4 := (HX2.out.2 4 (by decide)).1; have HX2_c5 := (HX2.out.2 5 (by decide)).1; have HX2_c6 := (HX2.out.2 6 (by decide)).1; have HX2_c7 := (HX2.out.2 7 (by decide)).1; have HX2_c8 := (HX2.out.2 8 (by decide)).1; have HX2_c9 := (HX2.out.2 9 (by decide)).1; have HX2_c10 := (HX2.out.2 10 (by decide)).1; have HX2_c11 := (HX2.out.2 11 (by decide)).1; have HX2_z := HX2.out.1
  go_wp2_with fail
  refine (RL.out _ (HL.out.below HB2.out)).mono ?_; rintro e w3 ⟨rfl, hb⟩; have hz := hb.size; (try simp only [World.size_alloc, World.heap_drewN, World.size_drew, World.size_setCell] at hz)
  have HB3 := Lib.hid (show Below w.heap.size w w3 from by have := HB2.out; exact bel)
  have HX3 := Lib.hid (HX2.out.below hb)
  clear hb HX2 HB2
  clear HX2_c0 HX2_c1 HX2_c2 HX2_c3 HX2_c4 HX2_c5 HX2_c6 HX2_c7 HX2_c8 HX2_c9 HX2_c10 HX2_c11 HX2_z
  go_wp2_with fail
  have HA3 := Lib.hid ((Ints.box w3 x 24).alloc (.cells #[.int .i64 (2), .int .i64 (f 11)] 32))
  have HF3 := Lib.hid (Ints.two (w3.alloc (.cells #[.int .i64 (x 0), .int .i64 (x 1), .int .i64 (x 2), .int .i64 (x 3), .int .i64 (x 4), .int .i64 (x 5), .int .i64 (x 6), .int .i64 (x 7), .int .i64 (x 8), .int .i64 (x 9), .int .i64 (x 10), .int .i64 (x 11)] 24)) (2) (f 11) 32 (fun j => if j = 0 then (2) else (f 11)) rfl rfl)
  refine (RX.out _).mono ?_; rintro e w4 ⟨rfl, hb⟩; have hz := hb.size; (try simp only [World.size_alloc, World.heap_drewN, World.size_drew, World.size_setCell] at hz)
  have HB4 := Lib.hid (show Below w.heap.size w w4 from by have := HB3.out; exact bel)
  have HX4 := Lib.hid (((HX3.out.alloc _).alloc _).below hb)
  have HA4 := Lib.hid (HA3.out.below hb)
  have HF4 := Lib.hid (HF3.out.below hb)
  rw [World.size_alloc] at HF4
  clear hb HX3 HA3 HF3 HB3
  have d0 : w4.cell? ⟨w3.heap.size + 1, 0, none⟩ = some (.int .i64 (2)) := (HF4.out.2 0 (by decide)).1
  have d1 : w4.cell? ⟨w3.heap.size + 1, 1, none⟩ = some (.int .i64 (f 11)) := (HF4.out.2 1 (by decide)).1
  have dz := HF4.out.1
  go_upto_region 9 with fail
  refine region_below (by kernel_rfl) (by kernel_rfl) ?_; intro wR HW
  have HBR := Lib.hid (show Below w.heap.size w wR from by have := HB4.out; rw [← HW.out]; exact bel)
  have HXR := Lib.hid (show Ints wR w.heap.size 12 f from by rw [← HW.out]; exact HX4.out)
  have HAR := Lib.hid (show Ints wR w3.heap.size 12 x from by rw [← HW.out]; exact HA4.out)
  rw [HW.out] at d0 d1
  replace d0 := cell_regrown d0
  replace d1 := cell_regrown d1
  obtain ⟨b1, o1, rfl, hl1, hc1⟩ := HL.out.some (by omega)
  obtain ⟨k0, k1⟩ := two_cells hc1 HBR.out hPm
  rw [HK0.out] at k0
  rw [HK1.out] at k1
  replace k0 := cell_regrown k0
  replace k1 := cell_regrown k1
  clear hc1
  have x10 := cell_regrown (HXR.out.2 10 (by decide)).1
  have x11 := cell_regrown (HXR.out.2 11 (by decide)).1
  have a10 : wR.cell? ⟨w3.heap.size, 10, none⟩ = some (.int .i64 (2 * m)) := by
    have := (HAR.out.2 10 (by decide)).1
    rw [HG.out 10, if_pos rfl] at this
    exact this
  have a11 : wR.cell? ⟨w3.heap.size, 11, none⟩ = some (.int .i64 (f 11)) := by
    have := (HAR.out.2 11 (by decide)).1
    rw [HG.out 11, if_neg (by omega)] at this
    exact this
  replace a10 := cell_regrown a10
  replace a11 := cell_regrown a11
  have s2 : IntKind.i64.wrap (2 * (m : Int)) = 2 * m := IntWalk.i64_in _ (by omega)
  have hd0 : decide (0 < f 10) = true := decide_eq_true h0
  (repeat (first | go_big_quiet_step (first | with_reducible exact Calls.regrown_of (AW.out _)) | quiet_step (first | with_reducible exact Calls.regrown_of (AW.out _)))); refine wpQuiet_nil ?_; intro w2 hb2
  have HB5 := Lib.hid (show Below w.heap.size w w2 from by have := HBR.out; exact bthru hb2 this)
  clear hb2
  have := HB5.out
  go_wp2
  go_ret
  exact ⟨rfl, HB5.out⟩
end Go.Proofs.Ytijgabippedhpaa
