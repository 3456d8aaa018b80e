
import Derived.Test.YtjhkkpjekglkoaaRows
import Derived.Test.YtjhkkpjekglkoaaWireE
import Derived.Lib.ConvBytes
import Derived.Lib.SmallJoins
namespace Go.Proofs.Ytjhkkpjekglkoaa
set_option linter.unusedVariables false
open Go.ChangeShapes Go.WideShapes Go.RowKit

attribute [local go_sem] frame_kind frame_id
theorem get_lit0 (w : World) :
    Calls Try.prog 11 #[.string ⟨#[0]⟩] w fun E w' => E = .returned (.agg #[.int .i64 3, .int .i64 0]) ∧ Below w.heap.size w w' := by
  have h := get_any ⟨#[0]⟩ (by decide +kernel) w
  have e1 : Wire.kind (ByteArray.mk #[0]).data.toList = 3 := by decide +kernel
  have e2 : Wire.id_ (ByteArray.mk #[0]).data.toList = 0 := by decide +kernel
  rw [e1, e2] at h
  exact h
theorem wireBack_noise (i : Int) (bit : Nat) (w : World) :
    Calls Try.prog 4 #[.agg #[.int .i64 3, .int .i64 i], .int .u8 bit] w fun e w' => e = .returned (.bool true) ∧ Below w.heap.size w w' := by
  have hr : Wire.right 3 i = false := Wire.right_no (by omega)
  have HR := Lib.hid hr
  clear hr
  go_enter Try.func4, Try.ntmps4
  go_wp2_with fail
  refine (put_noise _ _ (by simp) _).mono ?_; rintro e w1 ⟨rfl, hb⟩; obtain ⟨hc, hf, hz⟩ := bcall hb; try simp only [World.size_alloc, World.heap_drewN] at hz
  have z0 : (w.heap.size) < w1.heap.size := (by omega); have k0 := hc (w.heap.size) 0 (by first | (simp; done) | (simp; omega) | omega); have k1 := hc (w.heap.size) 1 (by first | (simp; done) | (simp; omega) | omega); have g0 := hf (w.heap.size) 0 (by first | (simp; done) | (simp; omega) | omega); have g1 := hf (w.heap.size) 1 (by first | (simp; done) | (simp; omega) | omega); simp [go_sem] at k0; simp [go_sem] at k1; simp [go_sem] at g0; simp [go_sem] at g1
  go_wp2_with fail
  refine (wright_any _ _ _).mono ?_; rintro e w1 ⟨rfl, hb⟩; obtain ⟨hc, hf, hz⟩ := bcall hb; try simp only [World.size_alloc, World.heap_drewN] at hz
  have z0 : (w.heap.size) < w1.heap.size := (by omega); have k0 := (hc (w.heap.size) 0 (by omega)).trans k0; have k1 := (hc (w.heap.size) 1 (by omega)).trans k1; have g0 := (hf (w.heap.size) 0 (by omega)).trans g0; have g1 := (hf (w.heap.size) 1 (by omega)).trans g1
  rw [HR.out]
  go_wp2_with fail
  refine (awake2_any _).mono ?_; rintro e w1 ⟨rfl, hb⟩; obtain ⟨hc, hf, hz⟩ := bcall hb; try simp only [World.size_alloc, World.heap_drewN] at hz
  have z0 : (w.heap.size) < w1.heap.size := (by omega); have k0 := (hc (w.heap.size) 0 (by omega)).trans k0; have k1 := (hc (w.heap.size) 1 (by omega)).trans k1; have g0 := (hf (w.heap.size) 0 (by omega)).trans g0; have g1 := (hf (w.heap.size) 1 (by omega)).trans g1
  go_wp2_with fail
  refine (get_lit0 _).mono ?_; rintro e w1 ⟨rfl, hb⟩; obtain ⟨hc, hf, hz⟩ := bcall hb; try simp only [World.size_alloc, World.heap_drewN] at hz
  go_wp2
  go_ret
  exact ⟨rfl, (by with_reducible repeat (first | exact Below.refl _ _ | apply kalloc | apply kept_drewN | (refine kset ?_ (by first | (simp; done) | (simp; omega)) _) | assumption | (refine bthru (by assumption) ?_)))⟩
theorem wireBack_none (k i : Int) (bit : Nat) (h : (k == 3) = false) (hr : Wire.right k i = false) (w : World) :
    Calls Try.prog 4 #[.agg #[.int .i64 k, .int .i64 i], .int .u8 bit] w fun e w' => e = .returned (.bool true) ∧ Below w.heap.size w w' := by
  have HR := Lib.hid hr
  clear hr
  go_enter Try.func4, Try.ntmps4
  go_wp2_with fail
  refine (put_none _ _ h HR.out _).mono ?_; rintro e w1 ⟨rfl, hb⟩; obtain ⟨hc, hf, hz⟩ := bcall hb; try simp only [World.size_alloc, World.heap_drewN] at hz
  have z0 : (w.heap.size) < w1.heap.size := (by omega); have k0 := hc (w.heap.size) 0 (by first | (simp; done) | (simp; omega) | omega); have k1 := hc (w.heap.size) 1 (by first | (simp; done) | (simp; omega) | omega); have g0 := hf (w.heap.size) 0 (by first | (simp; done) | (simp; omega) | omega); have g1 := hf (w.heap.size) 1 (by first | (simp; done) | (simp; omega) | omega); simp [go_sem] at k0; simp [go_sem] at k1; simp [go_sem] at g0; simp [go_sem] at g1
  go_wp2_with fail
  refine (wright_any _ _ _).mono ?_; rintro e w1 ⟨rfl, hb⟩; obtain ⟨hc, hf, hz⟩ := bcall hb; try simp only [World.size_alloc, World.heap_drewN] at hz
  have z0 : (w.heap.size) < w1.heap.size := (by omega); have k0 := (hc (w.heap.size) 0 (by omega)).trans k0; have k1 := (hc (w.heap.size) 1 (by omega)).trans k1; have g0 := (hf (w.heap.size) 0 (by omega)).trans g0; have g1 := (hf (w.heap.size) 1 (by omega)).trans g1
  rw [HR.out]
  go_wp2_with fail
  refine (awake2_any _).mono ?_; rintro e w1 ⟨rfl, hb⟩; obtain ⟨hc, hf, hz⟩ := bcall hb; try simp only [World.size_alloc, World.heap_drewN] at hz
  have z0 : (w.heap.size) < w1.heap.size := (by omega); have k0 := (hc (w.heap.size) 0 (by omega)).trans k0; have k1 := (hc (w.heap.size) 1 (by omega)).trans k1; have g0 := (hf (w.heap.size) 0 (by omega)).trans g0; have g1 := (hf (w.heap.size) 1 (by omega)).trans g1
  go_wp2
  go_ret
  exact ⟨rfl, (by with_reducible repeat (first | exact Below.refl _ _ | apply kalloc | apply kept_drewN | (refine kset ?_ (by first | (simp; done) | (simp; omega)) _) | assumption | (refine bthru (by assumption) ?_)))⟩
set_option maxHeartbeats 1000000 in
theorem wireBack_right (k : Int) (i bit : Nat) (hr : Wire.right k i = true) (hbit : bit < 256) (w : World) :
    Calls Try.prog 4 #[.agg #[.int .i64 k, .int .i64 i], .int .u8 bit] w fun e w' => e = .returned (.bool true) ∧ Below w.heap.size w w' := by
  have HR := Lib.hid hr
  have hm : ((bit : Int) % 56) = ((bit % 56 : Nat) : Int) := by simp
  have hq : bit % 56 < 56 := Nat.mod_lt _ (by omega)
  generalize bit % 56 = q at *
  have hkn : ((k.toNat : Nat) : Int) = k := by have := Wire.right_spec.1 hr; omega
  have hrn : Wire.right ((k.toNat : Nat) : Int) (i : Int) = true := by rw [hkn]; exact hr
  have hkb := Wire.kind_bytes hrn
  have hfl := Wire.flip_noise hrn q hq
  rw [hkn] at hkb
  have hlen := Wire.bytes_size k.toNat i
  have hput := fun w => put_right k i hr w
  generalize Wire.bytes k.toNat i = L at *
  obtain ⟨S, hS⟩ : ∃ S : ByteArray, S = ⟨L.toArray⟩ := ⟨_, rfl⟩
  have hSL : S.data.toList = L := by rw [hS]
  rw [← hS] at hput
  have hs7 : S.size = 7 := by rw [← hlen, ← hSL]; simp
  have hg1 : ∀ w, Calls Try.prog 11 #[.string S] w fun E w' => E = .returned (.agg #[.int .i64 k, .int .i64 i]) ∧ Below w.heap.size w w' := fun w => by
    have h := get_any S (by rw [hs7]; decide) w
    rw [hSL, hkb.1, hkb.2] at h
    exact h
  have hfll := Wire.flip_length L q
  have hg2 : ∀ w, Calls Try.prog 11 #[.string ⟨(Wire.flip L q).toArray⟩] w fun E w' => E = .returned (.agg #[.int .i64 3, .int .i64 0]) ∧ Below w.heap.size w w' := fun w => by
    have h := get_any ⟨(Wire.flip L q).toArray⟩ (by simp [ByteArray.size, hfll, hlen]; decide) w
    have e : (ByteArray.mk (Wire.flip L q).toArray).data.toList = Wire.flip L q := by simp
    rw [e, hfl.1, hfl.2] at h
    exact h
  have HM := Lib.hid hm
  have HP := Lib.hid hput
  have HG1 := Lib.hid hg1
  have HG2 := Lib.hid hg2
  have HSL := Lib.hid hSL
  have HL := Lib.hid hlen
  have HFL := Lib.hid hfll
  have H7 := Lib.hid hs7
  have h7 : ((S.size : Int) != 7) = false := by rw [hs7]; rfl
  clear hm hput hg1 hg2 hSL hlen hs7 hkn hrn hkb hfl hr hS hfll
  go_enter Try.func4, Try.ntmps4
  go_wp2_with fail
  refine (HP.out _).mono ?_; rintro e w1 ⟨rfl, hb⟩; obtain ⟨hc, hf, hz⟩ := bcall hb; try simp only [World.size_alloc, World.heap_drewN] at hz
  have z0 : (w.heap.size) < w1.heap.size := (by omega); have k0 := hc (w.heap.size) 0 (by first | (simp; done) | (simp; omega) | omega); have k1 := hc (w.heap.size) 1 (by first | (simp; done) | (simp; omega) | omega); have g0 := hf (w.heap.size) 0 (by first | (simp; done) | (simp; omega) | omega); have g1 := hf (w.heap.size) 1 (by first | (simp; done) | (simp; omega) | omega); simp [go_sem] at k0; simp [go_sem] at k1; simp [go_sem] at g0; simp [go_sem] at g1
  go_wp2_with fail
  refine (wright_any _ _ _).mono ?_; rintro e w1 ⟨rfl, hb⟩; obtain ⟨hc, hf, hz⟩ := bcall hb; try simp only [World.size_alloc, World.heap_drewN] at hz
  have z0 : (w.heap.size) < w1.heap.size := (by omega); have k0 := (hc (w.heap.size) 0 (by omega)).trans k0; have k1 := (hc (w.heap.size) 1 (by omega)).trans k1; have g0 := (hf (w.heap.size) 0 (by omega)).trans g0; have g1 := (hf (w.heap.size) 1 (by omega)).trans g1
  rw [HR.out]
  have hcv := Lib.run_convert_string_bytes (P := Try.prog) w1 9 29 5 S Try.underlying9 Try.underlying29 Try.underlying5
  have hbz := Lib.bytesWorld_size w1 5 S
  have hbel := Joins.below_bytesWorld w1.heap.size w1 5 S (Nat.le_refl _)
  have hbuf : Buf (Lib.bytesWorld w1 5 S) w1.heap.size 7 (Wire.get8 L) := by
    intro j hj
    have hj2 : j < S.size := by rw [H7.out]; exact hj
    refine ⟨?_, ?_⟩
    · have h := Lib.bytesWorld_cell w1 5 S j hj2
      rw [HSL.out] at h
      exact h
    · unfold World.frozen?
      rw [Lib.bytesWorld_at_new]
      simp [Lib.bytesCells]
      omega
  rw [H7.out] at hcv
  generalize Lib.bytesWorld w1 5 S = wB at *
  generalize grownCap w1 7 0 5 = cap at *
  have HBZ := Lib.hid hbz
  have HBF := Lib.hid hbuf
  obtain ⟨hc, hf, hz⟩ := bcall hbel
  have z0 : (w.heap.size) < wB.heap.size := (by omega); have k0 := (hc (w.heap.size) 0 (by omega)).trans k0; have k1 := (hc (w.heap.size) 1 (by omega)).trans k1; have g0 := (hf (w.heap.size) 0 (by omega)).trans g0; have g1 := (hf (w.heap.size) 1 (by omega)).trans g1
  clear hbz hbuf
  go_wp2_with fail
  rw [HM.out]
  clear hcv
  go_loop [8, 9] (fun one n => ∃ p : Nat, p ≤ q % 8 ∧ n = .int .i64 p ∧ one = .int .u8 (2 ^ p : Nat)) (fun _ n => 8 - (intOf n).toNat)
  case atStart => exact ⟨0, by omega, rfl, rfl⟩
  case round =>
    obtain ⟨p, hp8, rfl, rfl⟩ := hrel
    by_cases hlp : p < q % 8
    · have hp := Wire.pow_small (q := p) (by omega)
      have HPS : Hid (2 ^ (p + 1) = 2 ^ p * 2) := Nat.pow_succ 2 p
      generalize 2 ^ p = y at *
      go_wp2
      go_round
      case rel => exact ⟨p + 1, by omega, by go_num, by rw [HPS.out]; go_num⟩
      case measure => simp [intOf]; omega
    · have hp := Wire.pow_byte (q := p) (by omega)
      obtain rfl : p = q % 8 := by omega
      have hj : q / 8 < 7 := by omega
      obtain ⟨cj, fj⟩ := HBF.out _ hj
      have hcl := Wire.get8_lt L (q / 8)
      have HNB : Hid (Buf (wB.setCell ⟨w1.heap.size, q / 8, none⟩ (.int .u8 ((Wire.get8 L (q / 8) ^^^ 2 ^ (q % 8) : Nat) : Int))) w1.heap.size 7 (Wire.get8 (Wire.flip L q))) :=
        HBF.out.set _ _ hj _ (fun j => Wire.flip_get L HL.out q hq j)
      generalize Wire.get8 L (q / 8) = v at *
      have hxr := u8_xor_nat v (2 ^ (q % 8)) hcl hp
      generalize 2 ^ (q % 8) = y at *
      go_wp2_with fail
      refine region_below (by kernel_rfl) (by kernel_rfl) ?_; intro wR HW
      have hB3 : Below w.heap.size w wR := by rw [← HW.out]; exact (by with_reducible repeat (first | exact Below.refl _ _ | apply kalloc | apply kept_drewN | (refine kset ?_ (by first | (simp; done) | (simp; omega)) _) | assumption | (refine bthru (by assumption) ?_)))
      have HB3 := Lib.hid hB3
      clear hB3
      have k0 := cell_regrown (w := wR) (a := ⟨w.heap.size, 0, none⟩) (v := .int .i64 k) (by rw [← HW.out, World.cell?_setCell_other _ _ _ _ (by intro e; injection e with e; omega)]; exact k0)
      have k1 := cell_regrown (w := wR) (a := ⟨w.heap.size, 1, none⟩) (v := .int .i64 i) (by rw [← HW.out, World.cell?_setCell_other _ _ _ _ (by intro e; injection e with e; omega)]; exact k1)
      have HC : ∀ d os, (convert 29 9 (.slice (some ⟨w1.heap.size, 0, none⟩) 7 cap)).run Try.prog (Go.Sort.grow (redrawn wR d) os) = .ok (.string ⟨(Wire.flip L q).toArray⟩) (Go.Sort.grow (redrawn wR d) os) := by
        intro d os
        have h := run_convert_bytes_back (P := Try.prog) (Go.Sort.grow (redrawn wR d) os) 29 9 5 ⟨w1.heap.size, 0, none⟩ cap (Wire.flip L q) Try.underlying29 Try.underlying5 Try.underlying9 (fun j hj => by
          have h2 := (HNB.out j (by rw [HFL.out, HL.out] at hj; exact hj)).1
          rw [HW.out] at h2
          have h3 : (⟨w1.heap.size, 0, none⟩ : Addr).add j = ⟨w1.heap.size, j, none⟩ := by unfold Addr.add; split <;> simp_all
          rw [h3, cell_regrown h2 d os]
          simp only [Wire.get8, List.getD_eq_getElem?_getD]
          rw [List.getElem?_eq_getElem hj]
          rfl)
        rw [HFL.out, HL.out] at h
        exact h
      clear hxr
      (repeat (quiet_step (first | with_reducible exact Calls.regrown_of (awake2_any _) | with_reducible exact Calls.regrown_of (HG1.out _) | with_reducible exact Calls.regrown_of (HG2.out _)))); refine wpQuiet_nil ?_; intro w2 hb2
      go_wp2
      go_ret
      exact ⟨rfl, HB3.out.trans (hb2.mono HB3.out.size)⟩
end Go.Proofs.Ytjhkkpjekglkoaa
