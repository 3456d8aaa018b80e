
import Derived.Test.YtijgabippedhpaaRows
import Derived.Test.YtijgabippedhpaaGateM
namespace Go.Proofs.Ytijgabippedhpaa
set_option linter.unusedVariables false
set_option linter.unusedSimpArgs false
open Go.ChangeShapes Go.WideShapes Go.RowKit

set_option maxHeartbeats 4000000 in
theorem gateHolds_cs (hF : CGFits) (hS : CGSettle) (hR : CGRelay) (n : Nat) (hn : n < 256) (m : Nat) (hM : 3 + (n : Int) % 6 = m) (f : Nat → Int) (hf : Bd12 f) (va : Value) (l : Nat → Int) (w : World) (hl : Prs w va m l) (hok : Vote.Ok m f) (hfit : Gate.Fits m m l) (hway : Gate.way m f l m = 2) :
    Calls Try.prog 4 #[.int .u8 n, .agg #[.int .i64 (f 0), .int .i64 (f 1), .int .i64 (f 2), .int .i64 (f 3), .int .i64 (f 4), .int .i64 (f 5), .int .i64 (f 6), .int .i64 (f 7), .int .i64 (f 8), .int .i64 (f 9), .int .i64 (f 10), .int .i64 (f 11)], va] w fun e w' => e = .returned (.bool true) ∧ Below w.heap.size w w' := by
  obtain ⟨p1, c1, rfl⟩ := hl.form
  have h38 := hok.1
  have AW := Lib.hid (awake12_of hF hS hR)
  have bm : Bd (m : Int) := by unfold Bd; omega
  have h0w := Gate.wrong_zero hok hfit
  have RL := Lib.hid (fun w hl => hR m f (.slice p1 m c1) m l w bm hf (by omega) hl)
  rw [h0w, relayH_yes h0w, relayF_yes h0w] at RL
  have RR := Lib.hid (fun w => refVRight_any m f w)
  rw [Vote.ok_iff.2 hok] at RR
  have RX := Lib.hid (fun w => refVRight_any m (Gate.relay m f l m) w)
  rw [Vote.ok_iff.2 (Gate.ok_relay (l := l) (m := m) hok rfl)] at RX
  have FF := Lib.hid (fun w hl => refGFits_any m (.slice p1 m c1) m l w (by unfold maxLen; omega) hl)
  rw [Gate.fits_iff.2 hfit] at FF
  obtain ⟨hg, hr⟩ := relay_cs hway
  obtain ⟨h0, h9, P, hPm, hport, hk0, hk1⟩ := way_two hok hfit hway
  rw [hport] at hg
  have e0 : Gate.relayed m f l m 0 = 1 := by rw [hr 0, hport]; exact hk0
  have e1 : Gate.relayed m f l m 1 = P := by rw [hr 1, hport]; exact hk1
  rw [e0, e1] at RL
  have HG := Lib.hid hg
  have H0 := Lib.hid h0
  have HK0 := Lib.hid hk0
  have HK1 := Lib.hid hk1
  have hI0 : (0 : Int) ≤ P := by omega
  have hI : (P : Int) < m := by omega
  clear hk0 hk1 hr hport e0 e1 h0
  generalize Gate.relay m f l m = x at *
  have HL := Lib.hid hl
  clear hF hS hR bm h0w hok hfit hl hf hway hg
  go_enter Try.func4, Try.ntmps4
  go_wp2_with fail
  have hlen : ¬ (20 : Int) < m := by omega
  have HX0 := Lib.hid (Ints.box w f 24)
  refine (RR.out _).mono ?_; rintro e w1 ⟨rfl, hb⟩; have hz := hb.size; (try simp only [World.size_alloc, World.heap_drewN, World.size_drew, World.size_setCell] at hz)
  have HB1 := Lib.hid (show Below w.heap.size w w1 from bel)
  have HX1 := Lib.hid (HX0.out.below hb)
  clear hb HX0
  go_wp2_with fail
  refine (FF.out _ (HL.out.below HB1.out)).mono ?_; rintro e w2 ⟨rfl, hb⟩; have hz := hb.size; (try simp only [World.size_alloc, World.heap_drewN, World.size_drew, World.size_setCell] at hz)
  have HB2 := Lib.hid (show Below w.heap.size w w2 from by have := HB1.out; exact bel)
  have HX2 := Lib.hid (HX1.out.below hb)
  clear hb HX1 HB1
  have HX2_c0 := (HX2.out.2 0 (by decide)).1; have HX2_c1 := (HX2.out.2 1 (by decide)).1; have HX2_c2 := (HX2.out.2 2 (by decide)).1; have HX2_c3 := (HX2.out.2 3 (by decide)).1; have HX2_c4 := (HX2.out.2 4 (by decide)).1; have HX2_c5 := (HX2.out.2 5 (by decide)).1; have HX2_c6 := (HX2.out.2 6 (by decide)).1; have HX2_c7 := (HX2.out.2 7 (by decide)).1; have HX2_c8 := (HX2.out.2 8 (by decide)).1; have HX2_c9 := (HX2.out.2 9 (by decide)).1; have HX2_c10 := (HX2.out.2 10 (by decide)).1; have HX2_c11 := (HX2.out.2 11 (by decide)).1; have HX2_z := HX2.out.1
  go_wp2_with fail
  refine (RL.out _ (HL.out.below HB2.out)).mono ?_; rintro e w3 ⟨rfl, hb⟩; have hz := hb.size; (try simp only [World.size_alloc, World.heap_drewN, World.size_drew, World.size_setCell] at hz)
  have HB3 := Lib.hid (show Below w.heap.size w w3 from by have := HB2.out; exact bel)
  have HX3 := Lib.hid (HX2.out.below hb)
  clear hb HX2 HB2
  clear HX2_c0 HX2_c1 HX2_c2 HX2_c3 HX2_c4 HX2_c5 HX2_c6 HX2_c7 HX2_c8 HX2_c9 HX2_c10 HX2_c11 HX2_z
  go_wp2_with fail
  have HA3 := Lib.hid ((Ints.box w3 x 24).alloc (.cells #[.int .i64 (1), .int .i64 ((P : Int))] 32))
  have HF3 := Lib.hid (Ints.two (w3.alloc (.cells #[.int .i64 (x 0), .int .i64 (x 1), .int .i64 (x 2), .int .i64 (x 3), .int .i64 (x 4), .int .i64 (x 5), .int .i64 (x 6), .int .i64 (x 7), .int .i64 (x 8), .int .i64 (x 9), .int .i64 (x 10), .int .i64 (x 11)] 24)) (1) ((P : Int)) 32 (fun j => if j = 0 then (1) else ((P : Int))) rfl rfl)
  refine (RX.out _).mono ?_; rintro e w4 ⟨rfl, hb⟩; have hz := hb.size; (try simp only [World.size_alloc, World.heap_drewN, World.size_drew, World.size_setCell] at hz)
  have HB4 := Lib.hid (show Below w.heap.size w w4 from by have := HB3.out; exact bel)
  have HX4 := Lib.hid (((HX3.out.alloc _).alloc _).below hb)
  have HA4 := Lib.hid (HA3.out.below hb)
  have HF4 := Lib.hid (HF3.out.below hb)
  rw [World.size_alloc] at HF4
  clear hb HX3 HA3 HF3 HB3
  have d0 : w4.cell? ⟨w3.heap.size + 1, 0, none⟩ = some (.int .i64 (1)) := (HF4.out.2 0 (by decide)).1
  have d1 : w4.cell? ⟨w3.heap.size + 1, 1, none⟩ = some (.int .i64 ((P : Int))) := (HF4.out.2 1 (by decide)).1
  have dz := HF4.out.1
  go_upto_region 11 with fail
  refine region_below (by kernel_rfl) (by kernel_rfl) ?_; intro wR HW
  have HBR := Lib.hid (show Below w.heap.size w wR from by have := HB4.out; rw [← HW.out]; exact bel)
  have HXR := Lib.hid (show Ints wR w.heap.size 12 f from by rw [← HW.out]; exact HX4.out)
  have HAR := Lib.hid (show Ints wR w3.heap.size 12 x from by rw [← HW.out]; exact HA4.out)
  rw [HW.out] at d0 d1
  replace d0 := cell_regrown d0
  replace d1 := cell_regrown d1
  obtain ⟨b1, o1, rfl, hl1, hc1⟩ := HL.out.some (by omega)
  obtain ⟨k0, k1⟩ := two_cells hc1 HBR.out hPm
  rw [HK0.out] at k0
  rw [HK1.out] at k1
  replace k0 := cell_regrown k0
  replace k1 := cell_regrown k1
  clear hc1
  have x9 := cell_regrown (HXR.out.2 9 (by decide)).1
  have x10 : wR.cell? ⟨w.heap.size, 10, none⟩ = some (.int .i64 0) := by
    have := (HXR.out.2 10 (by decide)).1
    rw [H0.out] at this
    exact this
  have a8 : wR.cell? ⟨w3.heap.size, 8, none⟩ = some (.int .i64 (P : Int)) := by
    have := (HAR.out.2 8 (by decide)).1
    rw [HG.out 8, if_neg (by omega), if_pos rfl] at this
    exact this
  have a9 : wR.cell? ⟨w3.heap.size, 9, none⟩ = some (.int .i64 0) := by
    have := (HAR.out.2 9 (by decide)).1
    rw [HG.out 9, if_neg (by omega), if_neg (by omega), if_pos rfl] at this
    exact this
  have a10 : wR.cell? ⟨w3.heap.size, 10, none⟩ = some (.int .i64 0) := by
    have := (HAR.out.2 10 (by decide)).1
    rw [HG.out 10, if_neg (by omega), if_neg (by omega), if_neg (by omega), H0.out] at this
    exact this
  replace x10 := cell_regrown x10
  replace a8 := cell_regrown a8
  replace a9 := cell_regrown a9
  replace a10 := cell_regrown a10
  have s2 : IntKind.i64.wrap (2 * (m : Int)) = 2 * m := IntWalk.i64_in _ (by omega)
  have hd9 : decide (2 * (m : Int) < f 9) = true := decide_eq_true h9
  (repeat (first | go_big_quiet_step (first | with_reducible exact Calls.regrown_of (AW.out _)) | quiet_step (first | with_reducible exact Calls.regrown_of (AW.out _)))); refine wpQuiet_nil ?_; intro w2 hb2
  have HB5 := Lib.hid (show Below w.heap.size w w2 from by have := HBR.out; exact bthru hb2 this)
  clear hb2
  have := HB5.out
  go_wp2
  go_ret
  exact ⟨rfl, HB5.out⟩
set_option maxHeartbeats 4000000 in
theorem gateHolds_none (hF : CGFits) (hS : CGSettle) (hR : CGRelay) (n : Nat) (hn : n < 256) (m : Nat) (hM : 3 + (n : Int) % 6 = m) (f : Nat → Int) (hf : Bd12 f) (va : Value) (l : Nat → Int) (w : World) (hl : Prs w va m l) (hok : Vote.Ok m f) (hfit : Gate.Fits m m l) (hway : Gate.way m f l m = 0) :
    Calls Try.prog 4 #[.int .u8 n, .agg #[.int .i64 (f 0), .int .i64 (f 1), .int .i64 (f 2), .int .i64 (f 3), .int .i64 (f 4), .int .i64 (f 5), .int .i64 (f 6), .int .i64 (f 7), .int .i64 (f 8), .int .i64 (f 9), .int .i64 (f 10), .int .i64 (f 11)], va] w fun e w' => e = .returned (.bool true) ∧ Below w.heap.size w w' := by
  obtain ⟨p1, c1, rfl⟩ := hl.form
  have h38 := hok.1
  have AW := Lib.hid (awake12_of hF hS hR)
  have bm : Bd (m : Int) := by unfold Bd; omega
  have h0w := Gate.wrong_zero hok hfit
  have RL := Lib.hid (fun w hl => hR m f (.slice p1 m c1) m l w bm hf (by omega) hl)
  rw [h0w, relayH_yes h0w, relayF_yes h0w] at RL
  have RR := Lib.hid (fun w => refVRight_any m f w)
  rw [Vote.ok_iff.2 hok] at RR
  have RX := Lib.hid (fun w => refVRight_any m (Gate.relay m f l m) w)
  rw [Vote.ok_iff.2 (Gate.ok_relay (l := l) (m := m) hok rfl)] at RX
  have FF := Lib.hid (fun w hl => refGFits_any m (.slice p1 m c1) m l w (by unfold maxLen; omega) hl)
  rw [Gate.fits_iff.2 hfit] at FF
  obtain ⟨hg, hr⟩ := relay_none hway
  rw [hr] at RL
  rw [hg] at RX RL
  have HL := Lib.hid hl
  clear hF hS hR bm h0w hok hfit hl hf hway hg hr
  go_enter Try.func4, Try.ntmps4
  go_wp2_with fail
  have hlen : ¬ (20 : Int) < m := by omega
  have HX0 := Lib.hid (Ints.box w f 24)
  refine (RR.out _).mono ?_; rintro e w1 ⟨rfl, hb⟩; have hz := hb.size; (try simp only [World.size_alloc, World.heap_drewN, World.size_drew, World.size_setCell] at hz)
  have HB1 := Lib.hid (show Below w.heap.size w w1 from bel)
  have HX1 := Lib.hid (HX0.out.below hb)
  clear hb HX0
  go_wp2_with fail
  refine (FF.out _ (HL.out.below HB1.out)).mono ?_; rintro e w2 ⟨rfl, hb⟩; have hz := hb.size; (try simp only [World.size_alloc, World.heap_drewN, World.size_drew, World.size_setCell] at hz)
  have HB2 := Lib.hid (show Below w.heap.size w w2 from by have := HB1.out; exact bel)
  have HX2 := Lib.hid (HX1.out.below hb)
  clear hb HX1 HB1
  have HX2_c0 := (HX2.out.2 0 (by decide)).1; have HX2_c1 := (HX2.out.2 1 (by decide)).1; have HX2_c2 := (HX2.out.2 2 (by decide)).1; have HX2_c3 := (HX2.out.2 3 (by decide)).1; have HX2_c4 := (HX2.out.2 4 (by decide)).1; have HX2_c5 := (HX2.out.2 5 (by decide)).1; have HX2_c6 := (HX2.out.2 6 (by decide)).1; have HX2_c7 := (HX2.out.2 7 (by decide)).1; have HX2_c8 := (HX2.out.2 8 (by decide)).1; have HX2_c9 := (HX2.out.2 9 (by decide)).1; have HX2_c10 := (HX2.out.2 10 (by decide)).1; have HX2_c11 := (HX2.out.2 11 (by decide)).1; have HX2_z := HX2.out.1
  go_wp2_with fail
  refine (RL.out _ (HL.out.below HB2.out)).mono ?_; rintro e w3 ⟨rfl, hb⟩; have hz := hb.size; (try simp only [World.size_alloc, World.heap_drewN, World.size_drew, World.size_setCell] at hz)
  have HB3 := Lib.hid (show Below w.heap.size w w3 from by have := HB2.out; exact bel)
  have HX3 := Lib.hid (HX2.out.below hb)
  clear hb HX2 HB2
  clear HX2_c0 HX2_c1 HX2_c2 HX2_c3 HX2_c4 HX2_c5 HX2_c6 HX2_c7 HX2_c8 HX2_c9 HX2_c10 HX2_c11 HX2_z
  go_wp2_with fail
  have HA3 := Lib.hid ((Ints.box w3 f 24).alloc (.cells #[.int .i64 (0), .int .i64 (0)] 32))
  have HF3 := Lib.hid (Ints.two (w3.alloc (.cells #[.int .i64 (f 0), .int .i64 (f 1), .int .i64 (f 2), .int .i64 (f 3), .int .i64 (f 4), .int .i64 (f 5), .int .i64 (f 6), .int .i64 (f 7), .int .i64 (f 8), .int .i64 (f 9), .int .i64 (f 10), .int .i64 (f 11)] 24)) (0) (0) 32 (fun j => if j = 0 then (0) else (0)) rfl rfl)
  refine (RX.out _).mono ?_; rintro e w4 ⟨rfl, hb⟩; have hz := hb.size; (try simp only [World.size_alloc, World.heap_drewN, World.size_drew, World.size_setCell] at hz)
  have HB4 := Lib.hid (show Below w.heap.size w w4 from by have := HB3.out; exact bel)
  have HX4 := Lib.hid (((HX3.out.alloc _).alloc _).below hb)
  have HA4 := Lib.hid (HA3.out.below hb)
  have HF4 := Lib.hid (HF3.out.below hb)
  rw [World.size_alloc] at HF4
  clear hb HX3 HA3 HF3 HB3
  have d0 : w4.cell? ⟨w3.heap.size + 1, 0, none⟩ = some (.int .i64 (0)) := (HF4.out.2 0 (by decide)).1
  have d1 : w4.cell? ⟨w3.heap.size + 1, 1, none⟩ = some (.int .i64 (0)) := (HF4.out.2 1 (by decide)).1
  have dz := HF4.out.1
  have EQ := hub_same f
  go_wp2_with fail
  refine (AW.out _).mono ?_; rintro e w5 ⟨rfl, hb⟩; have hz := hb.size; (try simp only [World.size_alloc, World.heap_drewN, World.size_drew, World.size_setCell] at hz)
  have HB5 := Lib.hid (show Below w.heap.size w w5 from by have := HB4.out; exact bel)
  have HX5 := Lib.hid (HX4.out.below hb)
  have HA5 := Lib.hid (HA4.out.below hb)
  have HF5 := Lib.hid (HF4.out.below hb)
  clear hb HX4 HA4 HF4 HB4 d0 d1 dz
  have d0 : w5.cell? ⟨w3.heap.size + 1, 0, none⟩ = some (.int .i64 0) := (HF5.out.2 0 (by decide)).1
  have d1 : w5.cell? ⟨w3.heap.size + 1, 1, none⟩ = some (.int .i64 0) := (HF5.out.2 1 (by decide)).1
  have HX5_c0 := (HX5.out.2 0 (by decide)).1; have HX5_c1 := (HX5.out.2 1 (by decide)).1; have HX5_c2 := (HX5.out.2 2 (by decide)).1; have HX5_c3 := (HX5.out.2 3 (by decide)).1; have HX5_c4 := (HX5.out.2 4 (by decide)).1; have HX5_c5 := (HX5.out.2 5 (by decide)).1; have HX5_c6 := (HX5.out.2 6 (by decide)).1; have HX5_c7 := (HX5.out.2 7 (by decide)).1; have HX5_c8 := (HX5.out.2 8 (by decide)).1; have HX5_c9 := (HX5.out.2 9 (by decide)).1; have HX5_c10 := (HX5.out.2 10 (by decide)).1; have HX5_c11 := (HX5.out.2 11 (by decide)).1; have HX5_z := HX5.out.1
  have HA5_c0 := (HA5.out.2 0 (by decide)).1; have HA5_c1 := (HA5.out.2 1 (by decide)).1; have HA5_c2 := (HA5.out.2 2 (by decide)).1; have HA5_c3 := (HA5.out.2 3 (by decide)).1; have HA5_c4 := (HA5.out.2 4 (by decide)).1; have HA5_c5 := (HA5.out.2 5 (by decide)).1; have HA5_c6 := (HA5.out.2 6 (by decide)).1; have HA5_c7 := (HA5.out.2 7 (by decide)).1; have HA5_c8 := (HA5.out.2 8 (by decide)).1; have HA5_c9 := (HA5.out.2 9 (by decide)).1; have HA5_c10 := (HA5.out.2 10 (by decide)).1; have HA5_c11 := (HA5.out.2 11 (by decide)).1; have HA5_z := HA5.out.1
  have := HB5.out
  go_wp2
  go_ret
  exact ⟨rfl, bel⟩
end Go.Proofs.Ytijgabippedhpaa
