
import Derived.Test.YtjhkkpjekglkoaaRows
import Derived.Test.YtjhkkpjekglkoaaWireF
namespace Go.Proofs.Ytjhkkpjekglkoaa
set_option linter.unusedVariables false
open Go.ChangeShapes Go.WideShapes Go.RowKit
attribute [local go_sem] frame_kind frame_id

theorem wireUnlike_a (k i k2 i2 : Int) (s : ByteArray) (hr : Wire.right k i = false) (w : World) :
    Calls Try.prog 5 #[.agg #[.int .i64 k, .int .i64 i], .agg #[.int .i64 k2, .int .i64 i2], .string s] w fun e w' => e = .returned (.bool true) ∧ Below w.heap.size w w' := by
  have HR := Lib.hid hr
  clear hr
  go_enter Try.func5, Try.ntmps5
  go_wp2_with fail
  refine (wright_any _ _ _).mono ?_; rintro e w1 ⟨rfl, hb⟩; obtain ⟨hc, hf, hz⟩ := bcall hb; try simp only [World.size_alloc, World.heap_drewN] at hz
  rw [HR.out]
  go_wp2_with fail
  refine (awake2_any _).mono ?_; rintro e w1 ⟨rfl, hb⟩; obtain ⟨hc, hf, hz⟩ := bcall hb; try simp only [World.size_alloc, World.heap_drewN] at hz
  go_wp2
  go_ret
  exact ⟨rfl, (by with_reducible repeat (first | exact Below.refl _ _ | apply kalloc | apply kept_drewN | (refine kset ?_ (by first | (simp; done) | (simp; omega)) _) | assumption | (refine bthru (by assumption) ?_)))⟩
theorem wireUnlike_b (k i k2 i2 : Int) (s : ByteArray) (hr : Wire.right k i = true) (hr2 : Wire.right k2 i2 = false) (w : World) :
    Calls Try.prog 5 #[.agg #[.int .i64 k, .int .i64 i], .agg #[.int .i64 k2, .int .i64 i2], .string s] w fun e w' => e = .returned (.bool true) ∧ Below w.heap.size w w' := by
  have HR := Lib.hid hr
  have HR2 := Lib.hid hr2
  clear hr hr2
  go_enter Try.func5, Try.ntmps5
  go_wp2_with fail
  refine (wright_any _ _ _).mono ?_; rintro e w1 ⟨rfl, hb⟩; obtain ⟨hc, hf, hz⟩ := bcall hb; try simp only [World.size_alloc, World.heap_drewN] at hz
  have z0 : (w.heap.size + 1) < w1.heap.size := (by omega); have k0 := hc (w.heap.size + 1) 0 (by first | (simp; done) | (simp; omega) | omega); have k1 := hc (w.heap.size + 1) 1 (by first | (simp; done) | (simp; omega) | omega); have g0 := hf (w.heap.size + 1) 0 (by first | (simp; done) | (simp; omega) | omega); have g1 := hf (w.heap.size + 1) 1 (by first | (simp; done) | (simp; omega) | omega); simp [go_sem] at k0; simp [go_sem] at k1; simp [go_sem] at g0; simp [go_sem] at g1
  rw [HR.out]
  go_wp2_with fail
  refine (wright_any _ _ _).mono ?_; rintro e w1 ⟨rfl, hb⟩; obtain ⟨hc, hf, hz⟩ := bcall hb; try simp only [World.size_alloc, World.heap_drewN] at hz
  rw [HR2.out]
  go_wp2_with fail
  refine (awake2_any _).mono ?_; rintro e w1 ⟨rfl, hb⟩; obtain ⟨hc, hf, hz⟩ := bcall hb; try simp only [World.size_alloc, World.heap_drewN] at hz
  go_wp2
  go_ret
  exact ⟨rfl, (by with_reducible repeat (first | exact Below.refl _ _ | apply kalloc | apply kept_drewN | (refine kset ?_ (by first | (simp; done) | (simp; omega)) _) | assumption | (refine bthru (by assumption) ?_)))⟩
theorem wireUnlike_c (k i k2 i2 : Int) (s : ByteArray) (hr : Wire.right k i = true) (hr2 : Wire.right k2 i2 = true) (h : decide ((100 : Int) < s.size) = true) (w : World) :
    Calls Try.prog 5 #[.agg #[.int .i64 k, .int .i64 i], .agg #[.int .i64 k2, .int .i64 i2], .string s] w fun e w' => e = .returned (.bool true) ∧ Below w.heap.size w w' := by
  have HR := Lib.hid hr
  have HR2 := Lib.hid hr2
  clear hr hr2
  go_enter Try.func5, Try.ntmps5
  go_wp2_with fail
  refine (wright_any _ _ _).mono ?_; rintro e w1 ⟨rfl, hb⟩; obtain ⟨hc, hf, hz⟩ := bcall hb; try simp only [World.size_alloc, World.heap_drewN] at hz
  have z0 : (w.heap.size + 1) < w1.heap.size := (by omega); have k0 := hc (w.heap.size + 1) 0 (by first | (simp; done) | (simp; omega) | omega); have k1 := hc (w.heap.size + 1) 1 (by first | (simp; done) | (simp; omega) | omega); have g0 := hf (w.heap.size + 1) 0 (by first | (simp; done) | (simp; omega) | omega); have g1 := hf (w.heap.size + 1) 1 (by first | (simp; done) | (simp; omega) | omega); simp [go_sem] at k0; simp [go_sem] at k1; simp [go_sem] at g0; simp [go_sem] at g1
  rw [HR.out]
  go_wp2_with fail
  refine (wright_any _ _ _).mono ?_; rintro e w1 ⟨rfl, hb⟩; obtain ⟨hc, hf, hz⟩ := bcall hb; try simp only [World.size_alloc, World.heap_drewN] at hz
  rw [HR2.out]
  go_wp2_with fail
  refine (awake2_any _).mono ?_; rintro e w1 ⟨rfl, hb⟩; obtain ⟨hc, hf, hz⟩ := bcall hb; try simp only [World.size_alloc, World.heap_drewN] at hz
  go_wp2
  go_ret
  exact ⟨rfl, (by with_reducible repeat (first | exact Below.refl _ _ | apply kalloc | apply kept_drewN | (refine kset ?_ (by first | (simp; done) | (simp; omega)) _) | assumption | (refine bthru (by assumption) ?_)))⟩
theorem wireUnlike_d (k i k2 i2 : Int) (s : ByteArray) (hr : Wire.right k i = true) (hr2 : Wire.right k2 i2 = true) (h : decide ((100 : Int) < s.size) = false) (h0 : ((s.size : Int) == 0) = true) (w : World) :
    Calls Try.prog 5 #[.agg #[.int .i64 k, .int .i64 i], .agg #[.int .i64 k2, .int .i64 i2], .string s] w fun e w' => e = .returned (.bool true) ∧ Below w.heap.size w w' := by
  have HR := Lib.hid hr
  have HR2 := Lib.hid hr2
  clear hr hr2
  go_enter Try.func5, Try.ntmps5
  go_wp2_with fail
  refine (wright_any _ _ _).mono ?_; rintro e w1 ⟨rfl, hb⟩; obtain ⟨hc, hf, hz⟩ := bcall hb; try simp only [World.size_alloc, World.heap_drewN] at hz
  have z0 : (w.heap.size + 1) < w1.heap.size := (by omega); have k0 := hc (w.heap.size + 1) 0 (by first | (simp; done) | (simp; omega) | omega); have k1 := hc (w.heap.size + 1) 1 (by first | (simp; done) | (simp; omega) | omega); have g0 := hf (w.heap.size + 1) 0 (by first | (simp; done) | (simp; omega) | omega); have g1 := hf (w.heap.size + 1) 1 (by first | (simp; done) | (simp; omega) | omega); simp [go_sem] at k0; simp [go_sem] at k1; simp [go_sem] at g0; simp [go_sem] at g1
  rw [HR.out]
  go_wp2_with fail
  refine (wright_any _ _ _).mono ?_; rintro e w1 ⟨rfl, hb⟩; obtain ⟨hc, hf, hz⟩ := bcall hb; try simp only [World.size_alloc, World.heap_drewN] at hz
  rw [HR2.out]
  go_wp2_with fail
  refine (awake2_any _).mono ?_; rintro e w1 ⟨rfl, hb⟩; obtain ⟨hc, hf, hz⟩ := bcall hb; try simp only [World.size_alloc, World.heap_drewN] at hz
  go_wp2
  go_ret
  exact ⟨rfl, (by with_reducible repeat (first | exact Below.refl _ _ | apply kalloc | apply kept_drewN | (refine kset ?_ (by first | (simp; done) | (simp; omega)) _) | assumption | (refine bthru (by assumption) ?_)))⟩
theorem put_rightN (k i : Nat) (h : Wire.right k i = true) (w : World) :
    Calls Try.prog 9 #[.agg #[.int .i64 k, .int .i64 i]] w fun e w' => e = .returned (.string ⟨(Wire.bytes k i).toArray⟩) ∧ Below w.heap.size w w' := put_right k i h w
theorem get_long (s : ByteArray) (h : s.size ≤ maxLen) (h7 : 7 < s.size) (w : World) :
    Calls Try.prog 11 #[.string s] w fun E w' => E = .returned (.agg #[.int .i64 3, .int .i64 0]) ∧ Below w.heap.size w w' := by
  have h2 := get_any s h w
  have e := Wire.kind_long (l := s.data.toList) (by simpa using h7)
  rw [e.1, e.2] at h2
  exact h2
set_option maxHeartbeats 1000000 in
theorem wireUnlike_e1 (k i : Nat) (s : ByteArray) (hr : Wire.right k i = true) (h : decide ((100 : Int) < s.size) = false) (h0 : ((s.size : Int) == 0) = false) (w : World) :
    Calls Try.prog 5 #[.agg #[.int .i64 k, .int .i64 i], .agg #[.int .i64 k, .int .i64 i], .string s] w fun e w' => e = .returned (.bool true) ∧ Below w.heap.size w w' := by
  have HR := Lib.hid hr
  have HR2 := Lib.hid hr
  have hs1 : s.size ≤ 100 := by have := of_decide_eq_false h; omega
  have hs2 : 1 ≤ s.size := by have := beq_eq_false_iff_ne.1 h0; omega
  have la := Wire.bytes_size k i
  have hpa := put_rightN k i hr
  have hib := Wire.right_spec.1 hr
  generalize hA : Wire.bytes k i = A at *
  have HA := Lib.hid hA
  have HPA := Lib.hid hpa
  have hsz : (⟨A.toArray⟩ : ByteArray).size = 7 := by show A.toArray.size = 7; simpa using la
  have hga : ∀ w, Calls Try.prog 11 #[.string (⟨A.toArray⟩ ++ s)] w fun E w' => E = .returned (.agg #[.int .i64 3, .int .i64 0]) ∧ Below w.heap.size w w' :=
    get_long _ (by rw [ByteArray.size_append, hsz]; unfold maxLen; omega) (by rw [ByteArray.size_append, hsz]; omega)
  have hgb : ∀ w, Calls Try.prog 11 #[.string (s ++ ⟨A.toArray⟩)] w fun E w' => E = .returned (.agg #[.int .i64 3, .int .i64 0]) ∧ Below w.heap.size w w' :=
    get_long _ (by rw [ByteArray.size_append, hsz]; unfold maxLen; omega) (by rw [ByteArray.size_append, hsz]; omega)
  have HGA := Lib.hid hga
  have HGB := Lib.hid hgb
  have HLA : Hid (A.length = 7) := la
  have HH := Lib.hid h
  clear hA hpa hga hgb hr la hib hsz
  go_enter Try.func5, Try.ntmps5
  go_wp2_with fail
  refine (wright_any _ _ _).mono ?_; rintro e w1 ⟨rfl, hb⟩; obtain ⟨hc, hf, hz⟩ := bcall hb; try simp only [World.size_alloc, World.heap_drewN] at hz
  have z0 : (w.heap.size + 1) < w1.heap.size := (by omega); have k0 := hc (w.heap.size) 0 (by first | (simp; done) | (simp; omega) | omega); have k1 := hc (w.heap.size) 1 (by first | (simp; done) | (simp; omega) | omega); have k2 := hc (w.heap.size + 1) 0 (by first | (simp; done) | (simp; omega) | omega); have k3 := hc (w.heap.size + 1) 1 (by first | (simp; done) | (simp; omega) | omega); simp [go_sem] at k0; simp [go_sem] at k1; simp [go_sem] at k2; simp [go_sem] at k3
  rw [HR.out]
  go_wp2_with fail
  refine (wright_any _ _ _).mono ?_; rintro e w1 ⟨rfl, hb⟩; obtain ⟨hc, hf, hz⟩ := bcall hb; try simp only [World.size_alloc, World.heap_drewN] at hz
  have z0 : (w.heap.size + 1) < w1.heap.size := (by omega); have k0 := (hc (w.heap.size) 0 (by omega)).trans k0; have k1 := (hc (w.heap.size) 1 (by omega)).trans k1; have k2 := (hc (w.heap.size + 1) 0 (by omega)).trans k2; have k3 := (hc (w.heap.size + 1) 1 (by omega)).trans k3
  rw [HR2.out]
  go_wp2_with fail
  refine region_below (by kernel_rfl) (by kernel_rfl) ?_; intro wR HW
  have hB3 : Below w.heap.size w wR := by rw [← HW.out]; exact (by with_reducible repeat (first | exact Below.refl _ _ | apply kalloc | apply kept_drewN | (refine kset ?_ (by first | (simp; done) | (simp; omega)) _) | assumption | (refine bthru (by assumption) ?_)))
  have HB3 := Lib.hid hB3
  clear hB3
  have q0 := cell_regrown (w := wR) (a := ⟨w.heap.size, 0, none⟩) (v := .int .i64 k) (by rw [← HW.out]; exact k0)
  have q1 := cell_regrown (w := wR) (a := ⟨w.heap.size, 1, none⟩) (v := .int .i64 i) (by rw [← HW.out]; exact k1)
  have q2 := cell_regrown (w := wR) (a := ⟨w.heap.size + 1, 0, none⟩) (v := .int .i64 k) (by rw [← HW.out]; exact k2)
  have q3 := cell_regrown (w := wR) (a := ⟨w.heap.size + 1, 1, none⟩) (v := .int .i64 i) (by rw [← HW.out]; exact k3)
  (repeat (quiet_step (first | with_reducible exact Calls.regrown_of (HPA.out _)))); refine wpQuiet_nil ?_; intro w2 hb2
  go_wp2_with fail
  have r0 := hb2.cell (p := ⟨w.heap.size, 0, none⟩) (by rw [← HW.out]; show w.heap.size < _; omega)
  have r1 := hb2.cell (p := ⟨w.heap.size, 1, none⟩) (by rw [← HW.out]; show w.heap.size < _; omega)
  have r2 := hb2.cell (p := ⟨w.heap.size + 1, 0, none⟩) (by rw [← HW.out]; show w.heap.size + 1 < _; omega)
  have r3 := hb2.cell (p := ⟨w.heap.size + 1, 1, none⟩) (by rw [← HW.out]; show w.heap.size + 1 < _; omega)
  rw [← HW.out] at r0 r1 r2 r3
  have k0 := r0.trans k0
  have k1 := r1.trans k1
  have k2 := r2.trans k2
  have k3 := r3.trans k3
  have hzz : w.heap.size + 1 < w2.heap.size := by have := hb2.size; rw [← HW.out] at this; omega
  clear r0 r1 r2 r3 q0 q1 q2 q3
  refine (awake2_any _).mono ?_
  rintro e w1 ⟨rfl, hb⟩
  obtain ⟨hc, hf, hz⟩ := bcall hb
  have z0 : (w.heap.size + 1) < w1.heap.size := (by omega); have k0 := (hc (w.heap.size) 0 (by omega)).trans k0; have k1 := (hc (w.heap.size) 1 (by omega)).trans k1; have k2 := (hc (w.heap.size + 1) 0 (by omega)).trans k2; have k3 := (hc (w.heap.size + 1) 1 (by omega)).trans k3
  have n1 : ¬ 9223372036854775807 < A.length + s.size := by rw [HLA.out]; omega
  have n2 : ¬ 9223372036854775807 < s.size + A.length := by rw [HLA.out]; omega
  go_wp2_with fail
  all_goals
    refine (HGA.out _).mono ?_; rintro e w1 ⟨rfl, hb⟩; obtain ⟨hc, hf, hz⟩ := bcall hb; try simp only [World.size_alloc, World.heap_drewN] at hz
    go_wp2_with fail
    refine (HGB.out _).mono ?_; rintro e w1 ⟨rfl, hb⟩; obtain ⟨hc, hf, hz⟩ := bcall hb; try simp only [World.size_alloc, World.heap_drewN] at hz
    go_wp2
    go_ret
    refine ⟨rfl, ?_⟩
    refine bthru (by assumption) (bthru (by assumption) (bthru (by assumption) ?_))
    exact HB3.out.trans (hb2.mono HB3.out.size)
set_option maxHeartbeats 1000000 in
theorem wireUnlike_e2 (k i m j : Nat) (s : ByteArray) (hr : Wire.right k i = true) (hr2 : Wire.right m j = true) (hkm : ¬ (k = m ∧ i = j)) (h : decide ((100 : Int) < s.size) = false) (h0 : ((s.size : Int) == 0) = false) (w : World) :
    Calls Try.prog 5 #[.agg #[.int .i64 k, .int .i64 i], .agg #[.int .i64 m, .int .i64 j], .string s] w fun e w' => e = .returned (.bool true) ∧ Below w.heap.size w w' := by
  have HR := Lib.hid hr
  have HR2 := Lib.hid hr2
  have hs1 : s.size ≤ 100 := by have := of_decide_eq_false h; omega
  have hs2 : 1 ≤ s.size := by have := beq_eq_false_iff_ne.1 h0; omega
  have hinj := Wire.bytes_inj hr hr2
  have la := Wire.bytes_size k i
  have lb := Wire.bytes_size m j
  have hpa := put_rightN k i hr
  have hpb := put_rightN m j hr2
  have hib := Wire.right_spec.1 hr
  generalize hA : Wire.bytes k i = A at *
  generalize hB : Wire.bytes m j = B at *
  have HA := Lib.hid hA
  have HB := Lib.hid hB
  have hAB : ¬ A = B := fun e => hkm (hinj e)
  have HPA := Lib.hid hpa
  have HPB := Lib.hid hpb
  have hsz : (⟨A.toArray⟩ : ByteArray).size = 7 := by show A.toArray.size = 7; simpa using la
  have hga : ∀ w, Calls Try.prog 11 #[.string (⟨A.toArray⟩ ++ s)] w fun E w' => E = .returned (.agg #[.int .i64 3, .int .i64 0]) ∧ Below w.heap.size w w' :=
    get_long _ (by rw [ByteArray.size_append, hsz]; unfold maxLen; omega) (by rw [ByteArray.size_append, hsz]; omega)
  have hgb : ∀ w, Calls Try.prog 11 #[.string (s ++ ⟨A.toArray⟩)] w fun E w' => E = .returned (.agg #[.int .i64 3, .int .i64 0]) ∧ Below w.heap.size w w' :=
    get_long _ (by rw [ByteArray.size_append, hsz]; unfold maxLen; omega) (by rw [ByteArray.size_append, hsz]; omega)
  have HGA := Lib.hid hga
  have HGB := Lib.hid hgb
  have HLA : Hid (A.length = 7) := la
  have HH := Lib.hid h
  have hkm : k = m → ¬ i = j := fun a b => hkm ⟨a, b⟩
  clear hA hB hinj hpa hpb hga hgb hr hr2 la lb hib hsz
  go_enter Try.func5, Try.ntmps5
  go_wp2_with fail
  refine (wright_any _ _ _).mono ?_; rintro e w1 ⟨rfl, hb⟩; obtain ⟨hc, hf, hz⟩ := bcall hb; try simp only [World.size_alloc, World.heap_drewN] at hz
  have z0 : (w.heap.size + 1) < w1.heap.size := (by omega); have k0 := hc (w.heap.size) 0 (by first | (simp; done) | (simp; omega) | omega); have k1 := hc (w.heap.size) 1 (by first | (simp; done) | (simp; omega) | omega); have k2 := hc (w.heap.size + 1) 0 (by first | (simp; done) | (simp; omega) | omega); have k3 := hc (w.heap.size + 1) 1 (by first | (simp; done) | (simp; omega) | omega); simp [go_sem] at k0; simp [go_sem] at k1; simp [go_sem] at k2; simp [go_sem] at k3
  rw [HR.out]
  go_wp2_with fail
  refine (wright_any _ _ _).mono ?_; rintro e w1 ⟨rfl, hb⟩; obtain ⟨hc, hf, hz⟩ := bcall hb; try simp only [World.size_alloc, World.heap_drewN] at hz
  have z0 : (w.heap.size + 1) < w1.heap.size := (by omega); have k0 := (hc (w.heap.size) 0 (by omega)).trans k0; have k1 := (hc (w.heap.size) 1 (by omega)).trans k1; have k2 := (hc (w.heap.size + 1) 0 (by omega)).trans k2; have k3 := (hc (w.heap.size + 1) 1 (by omega)).trans k3
  rw [HR2.out]
  go_wp2_with fail
  refine region_below (by kernel_rfl) (by kernel_rfl) ?_; intro wR HW
  have hB3 : Below w.heap.size w wR := by rw [← HW.out]; exact (by with_reducible repeat (first | exact Below.refl _ _ | apply kalloc | apply kept_drewN | (refine kset ?_ (by first | (simp; done) | (simp; omega)) _) | assumption | (refine bthru (by assumption) ?_)))
  have HB3 := Lib.hid hB3
  clear hB3
  have q0 := cell_regrown (w := wR) (a := ⟨w.heap.size, 0, none⟩) (v := .int .i64 k) (by rw [← HW.out]; exact k0)
  have q1 := cell_regrown (w := wR) (a := ⟨w.heap.size, 1, none⟩) (v := .int .i64 i) (by rw [← HW.out]; exact k1)
  have q2 := cell_regrown (w := wR) (a := ⟨w.heap.size + 1, 0, none⟩) (v := .int .i64 m) (by rw [← HW.out]; exact k2)
  have q3 := cell_regrown (w := wR) (a := ⟨w.heap.size + 1, 1, none⟩) (v := .int .i64 j) (by rw [← HW.out]; exact k3)
  (repeat (quiet_step (first | with_reducible exact Calls.regrown_of (HPA.out _) | with_reducible exact Calls.regrown_of (HPB.out _)))); refine wpQuiet_nil ?_; intro w2 hb2
  go_wp2_with fail
  have r0 := hb2.cell (p := ⟨w.heap.size, 0, none⟩) (by rw [← HW.out]; show w.heap.size < _; omega)
  have r1 := hb2.cell (p := ⟨w.heap.size, 1, none⟩) (by rw [← HW.out]; show w.heap.size < _; omega)
  have r2 := hb2.cell (p := ⟨w.heap.size + 1, 0, none⟩) (by rw [← HW.out]; show w.heap.size + 1 < _; omega)
  have r3 := hb2.cell (p := ⟨w.heap.size + 1, 1, none⟩) (by rw [← HW.out]; show w.heap.size + 1 < _; omega)
  rw [← HW.out] at r0 r1 r2 r3
  have k0 := r0.trans k0
  have k1 := r1.trans k1
  have k2 := r2.trans k2
  have k3 := r3.trans k3
  have hzz : w.heap.size + 1 < w2.heap.size := by have := hb2.size; rw [← HW.out] at this; omega
  clear r0 r1 r2 r3 q0 q1 q2 q3
  refine (awake2_any _).mono ?_
  rintro e w1 ⟨rfl, hb⟩
  obtain ⟨hc, hf, hz⟩ := bcall hb
  have z0 : (w.heap.size + 1) < w1.heap.size := (by omega); have k0 := (hc (w.heap.size) 0 (by omega)).trans k0; have k1 := (hc (w.heap.size) 1 (by omega)).trans k1; have k2 := (hc (w.heap.size + 1) 0 (by omega)).trans k2; have k3 := (hc (w.heap.size + 1) 1 (by omega)).trans k3
  have n1 : ¬ 9223372036854775807 < A.length + s.size := by rw [HLA.out]; omega
  have n2 : ¬ 9223372036854775807 < s.size + A.length := by rw [HLA.out]; omega
  go_wp2_with fail
  all_goals
    refine (HGA.out _).mono ?_; rintro e w1 ⟨rfl, hb⟩; obtain ⟨hc, hf, hz⟩ := bcall hb; try simp only [World.size_alloc, World.heap_drewN] at hz
    go_wp2_with fail
    refine (HGB.out _).mono ?_; rintro e w1 ⟨rfl, hb⟩; obtain ⟨hc, hf, hz⟩ := bcall hb; try simp only [World.size_alloc, World.heap_drewN] at hz
    go_wp2
    go_ret
    refine ⟨ret_bool (by simp [hAB]), ?_⟩
    refine bthru (by assumption) (bthru (by assumption) (bthru (by assumption) ?_))
    exact HB3.out.trans (hb2.mono HB3.out.size)

theorem wireUnlike_walk (k i m j : Int) (s : ByteArray) (hs : s.size ≤ maxLen) (w : World) :
    Calls Try.prog 5 #[.agg #[.int .i64 k, .int .i64 i], .agg #[.int .i64 m, .int .i64 j], .string s] w fun e w' => e = .returned (.bool true) ∧ Below w.heap.size w w' := by
  by_cases hr : Wire.right k i = true
  · by_cases hr2 : Wire.right m j = true
    · by_cases h : decide ((100 : Int) < s.size) = true
      · exact wireUnlike_c k i m j s hr hr2 h w
      · have h' : decide ((100 : Int) < s.size) = false := by simpa using h
        by_cases h0 : ((s.size : Int) == 0) = true
        · exact wireUnlike_d k i m j s hr hr2 h' h0 w
        · have h0' : ((s.size : Int) == 0) = false := by simpa using h0
          have a := Wire.right_spec.1 hr
          have b := Wire.right_spec.1 hr2
          obtain ⟨k', rfl⟩ := Int.eq_ofNat_of_zero_le (a := k) (by omega)
          obtain ⟨i', rfl⟩ := Int.eq_ofNat_of_zero_le (a := i) (by omega)
          obtain ⟨m', rfl⟩ := Int.eq_ofNat_of_zero_le (a := m) (by omega)
          obtain ⟨j', rfl⟩ := Int.eq_ofNat_of_zero_le (a := j) (by omega)
          by_cases e : k' = m' ∧ i' = j'
          · obtain ⟨rfl, rfl⟩ := e
            exact wireUnlike_e1 k' i' s hr h' h0' w
          · exact wireUnlike_e2 k' i' m' j' s hr hr2 e h' h0' w
    · exact wireUnlike_b k i m j s hr (by simpa using hr2) w
  · exact wireUnlike_a k i m j s (by simpa using hr) w
theorem wireBack_walk (k i : Int) (bit : Nat) (hb : bit < 256) (w : World) :
    Calls Try.prog 4 #[.agg #[.int .i64 k, .int .i64 i], .int .u8 bit] w fun e w' => e = .returned (.bool true) ∧ Below w.heap.size w w' := by
  by_cases hr : Wire.right k i = true
  · have a := Wire.right_spec.1 hr
    obtain ⟨i', rfl⟩ := Int.eq_ofNat_of_zero_le (a := i) (by omega)
    exact wireBack_right k i' bit hr hb w
  · by_cases h : k = 3
    · subst h; exact wireBack_noise i bit w
    · exact wireBack_none k i bit (by simpa using h) (by simpa using hr) w
theorem wireTells_walk (k i : Int) (s : ByteArray) (hs : s.size ≤ maxLen) (w : World) :
    Calls Try.prog 3 #[.agg #[.int .i64 k, .int .i64 i], .string s] w fun e w' => e = .returned (.bool true) ∧ Below w.heap.size w w' := by
  by_cases h : decide ((100 : Int) < s.size) = true
  · exact wireTells_big k i s h w
  · exact wireTells_small k i s hs (by simpa using h) w
end Go.Proofs.Ytjhkkpjekglkoaa
