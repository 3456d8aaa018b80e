
import Derived.Test.YtaienpbkinbmnaaRows
import Derived.Test.YtaienpbkinbmnaaNodeB
import Derived.LoopTactic
import Derived.Deep.QuietTactic
import Derived.BigQuiet
import Derived.RegionTactic
namespace Go.Proofs.Ytaienpbkinbmnaa
set_option linter.unusedVariables false
open Go.ChangeShapes Go.WideShapes Go.RowKit

theorem awake6_any (w : World) :
    Calls Try.prog 9 #[] w fun e w' => e = .returned (.bool true) ∧ Below w.heap.size w w' := by
  have e1 : Node.cleaned 3 1 9 0 7 = #[.int .i64 1, .int .i64 1, .int .i64 0, .int .i64 0] := by rfl
  go_enter Try.func9, Try.ntmps9
  go_wp2_with fail
  refine (nclean_any _ _ _ _ _ _ (by omega) _).mono ?_; rintro e w1 ⟨rfl, hb⟩; have hz := hb.size; try simp only [World.size_alloc, World.heap_drewN] at hz
  rw [e1, show Conf.err 3 1 = 0 from rfl]
  go_wp2_with fail
  refine (nfresh_any _ _ _).mono ?_; rintro e w2 ⟨rfl, hb⟩; have hz := hb.size; try simp only [World.size_alloc, World.heap_drewN] at hz
  rw [show Conf.err 2 0 = 1 from rfl, if_neg (by decide)]
  have z_ra : (w1.heap.size) < w2.heap.size := (by omega); have ra : w2.rangeAt (w1.heap.size) 0 [.int .i64 1, .int .i64 1, .int .i64 0, .int .i64 0] := (by with_reducible repeat (first | exact range_new_at _ _ _ (by first | omega | (simp; done) | (simp; omega)) | apply range_put | (with_unfolding_all rfl) | (refine range_alloc ?_ (by first | omega | (simp; done) | (simp; omega)) _) | (refine range_drewN ?_ _) | (refine range_far ?_ (by first | omega | (simp; done) | (simp; omega)) _) | assumption | (refine range_below ?_ (by assumption) (by first | omega | (simp; done) | (simp; omega)))))
  have ra_0 := range_cell ra 0 rfl; have ra_1 := range_cell ra 1 rfl; have ra_2 := range_cell ra 2 rfl; have ra_3 := range_cell ra 3 rfl
  go_wp2_with fail
  refine (nright_any _ _ _ _ _ _).mono ?_; rintro e w3 ⟨rfl, hb⟩; have hz := hb.size; try simp only [World.size_alloc, World.heap_drewN] at hz
  rw [show Node.right 3 1 1 0 0 = true from rfl]
  go_wp2_with fail
  refine (nright_any _ _ _ _ _ _).mono ?_; rintro e w4 ⟨rfl, hb⟩; have hz := hb.size; try simp only [World.size_alloc, World.heap_drewN] at hz
  rw [show Node.right 3 0 4 0 0 = false from rfl]
  go_wp2
  go_ret
  exact ⟨rfl, (by with_reducible repeat (first | exact Below.refl _ _ | apply kalloc | apply kept_drewN | (refine kset ?_ (by first | (simp; done) | (simp; omega)) _) | assumption | (refine bthru (by assumption) ?_)))⟩
set_option maxHeartbeats 1000000 in
theorem nodeTells_walk (n : Int) (hn : -9223372036854775808 ≤ n ∧ n ≤ 9223372036854775807) (i : Int) (hi : -9223372036854775808 ≤ i ∧ i ≤ 9223372036854775807) (i0 : Int) (hi0 : -9223372036854775808 ≤ i0 ∧ i0 ≤ 9223372036854775807) (m : Int) (hm : -9223372036854775808 ≤ m ∧ m ≤ 9223372036854775807) (c : Int) (hc : -9223372036854775808 ≤ c ∧ c ≤ 9223372036854775807) (p : Int) (hp : -9223372036854775808 ≤ p ∧ p ≤ 9223372036854775807) (w : World) :
    Calls Try.prog 3 #[.int .i64 n, .int .i64 i, .agg #[.int .i64 i0, .int .i64 m, .int .i64 c, .int .i64 p]] w fun e w' => e = .returned (.bool true) ∧ Below w.heap.size w w' := by
  go_enter Try.func3, Try.ntmps3
  go_wp2_with fail
  refine (nfresh_any _ _ _).mono ?_; rintro e w1 ⟨rfl, hb⟩; have hz := hb.size; try simp only [World.size_alloc, World.heap_drewN] at hz
  have HB1 := Lib.hid (show Below w.heap.size w w1 from (by with_reducible repeat (first | exact Below.refl _ _ | apply kalloc | apply kept_drewN | (refine kset ?_ (by first | (simp; done) | (simp; omega)) _) | assumption | (refine bthru (by assumption) ?_))))
  have z_rx : (w.heap.size) < w1.heap.size := (by omega); have rx : w1.rangeAt (w.heap.size) 0 [.int .i64 i0, .int .i64 m, .int .i64 c, .int .i64 p] := (by with_reducible repeat (first | exact range_new_at _ _ _ (by first | omega | (simp; done) | (simp; omega)) | apply range_put | (with_unfolding_all rfl) | (refine range_alloc ?_ (by first | omega | (simp; done) | (simp; omega)) _) | (refine range_drewN ?_ _) | (refine range_far ?_ (by first | omega | (simp; done) | (simp; omega)) _) | assumption | (refine range_below ?_ (by assumption) (by first | omega | (simp; done) | (simp; omega)))))
  clear hb
  have F := Lib.hid (refNfresh_any n i)
  have C1 := Lib.hid (fun w => nclean_any n i i0 m c p hc w)
  have C2 := Lib.hid (fun w => refNclean_any n i i0 m c p w)
  rw [Node.cleaned_flat] at C1 C2
  generalize (if Conf.err n i = 0 then i else 0) = xi at *
  generalize (if Conf.err n i = 0 then Node.mode m else 0) = xm at *
  generalize (if Conf.err n i = 0 then Node.count c else 0) = xc at *
  generalize (if Conf.err n i = 0 then Node.pos n m p else 0) = xp at *
  generalize Conf.err n i = er at *
  go_wp2_with fail
  refine (F.out _).mono ?_; rintro e w2 ⟨rfl, hb⟩; have hz := hb.size; try simp only [World.size_alloc, World.heap_drewN] at hz
  have HB2 := Lib.hid (show Below w.heap.size w w2 from by have := HB1.out; exact (by with_reducible repeat (first | exact Below.refl _ _ | apply kalloc | apply kept_drewN | (refine kset ?_ (by first | (simp; done) | (simp; omega)) _) | assumption | (refine bthru (by assumption) ?_))))
  have z_rx : (w.heap.size) < w2.heap.size := (by omega); have rx : w2.rangeAt (w.heap.size) 0 [.int .i64 i0, .int .i64 m, .int .i64 c, .int .i64 p] := (by with_reducible repeat (first | exact range_new_at _ _ _ (by first | omega | (simp; done) | (simp; omega)) | apply range_put | (with_unfolding_all rfl) | (refine range_alloc ?_ (by first | omega | (simp; done) | (simp; omega)) _) | (refine range_drewN ?_ _) | (refine range_far ?_ (by first | omega | (simp; done) | (simp; omega)) _) | assumption | (refine range_below ?_ (by assumption) (by first | omega | (simp; done) | (simp; omega)))))
  have z_ra : (w1.heap.size) < w2.heap.size := (by omega); have ra : w2.rangeAt (w1.heap.size) 0 [.int .i64 xi, .int .i64 0, .int .i64 0, .int .i64 0] := (by with_reducible repeat (first | exact range_new_at _ _ _ (by first | omega | (simp; done) | (simp; omega)) | apply range_put | (with_unfolding_all rfl) | (refine range_alloc ?_ (by first | omega | (simp; done) | (simp; omega)) _) | (refine range_drewN ?_ _) | (refine range_far ?_ (by first | omega | (simp; done) | (simp; omega)) _) | assumption | (refine range_below ?_ (by assumption) (by first | omega | (simp; done) | (simp; omega)))))
  clear hb
  have rx_0 := range_cell rx 0 rfl; have rx_1 := range_cell rx 1 rfl; have rx_2 := range_cell rx 2 rfl; have rx_3 := range_cell rx 3 rfl
  go_wp2_with fail
  refine (C1.out _).mono ?_; rintro e w3 ⟨rfl, hb⟩; have hz := hb.size; try simp only [World.size_alloc, World.heap_drewN] at hz
  have HB3 := Lib.hid (show Below w.heap.size w w3 from by have := HB2.out; exact (by with_reducible repeat (first | exact Below.refl _ _ | apply kalloc | apply kept_drewN | (refine kset ?_ (by first | (simp; done) | (simp; omega)) _) | assumption | (refine bthru (by assumption) ?_))))
  have z_rx : (w.heap.size) < w3.heap.size := (by omega); have rx : w3.rangeAt (w.heap.size) 0 [.int .i64 i0, .int .i64 m, .int .i64 c, .int .i64 p] := (by with_reducible repeat (first | exact range_new_at _ _ _ (by first | omega | (simp; done) | (simp; omega)) | apply range_put | (with_unfolding_all rfl) | (refine range_alloc ?_ (by first | omega | (simp; done) | (simp; omega)) _) | (refine range_drewN ?_ _) | (refine range_far ?_ (by first | omega | (simp; done) | (simp; omega)) _) | assumption | (refine range_below ?_ (by assumption) (by first | omega | (simp; done) | (simp; omega)))))
  have z_ra : (w1.heap.size) < w3.heap.size := (by omega); have ra : w3.rangeAt (w1.heap.size) 0 [.int .i64 xi, .int .i64 0, .int .i64 0, .int .i64 0] := (by with_reducible repeat (first | exact range_new_at _ _ _ (by first | omega | (simp; done) | (simp; omega)) | apply range_put | (with_unfolding_all rfl) | (refine range_alloc ?_ (by first | omega | (simp; done) | (simp; omega)) _) | (refine range_drewN ?_ _) | (refine range_far ?_ (by first | omega | (simp; done) | (simp; omega)) _) | assumption | (refine range_below ?_ (by assumption) (by first | omega | (simp; done) | (simp; omega)))))
  have z_rb : (w2.heap.size) < w3.heap.size := (by omega); have rb : w3.rangeAt (w2.heap.size) 0 [.int .i64 xi, .int .i64 0, .int .i64 0, .int .i64 0] := (by with_reducible repeat (first | exact range_new_at _ _ _ (by first | omega | (simp; done) | (simp; omega)) | apply range_put | (with_unfolding_all rfl) | (refine range_alloc ?_ (by first | omega | (simp; done) | (simp; omega)) _) | (refine range_drewN ?_ _) | (refine range_far ?_ (by first | omega | (simp; done) | (simp; omega)) _) | assumption | (refine range_below ?_ (by assumption) (by first | omega | (simp; done) | (simp; omega)))))
  clear hb
  have rx_0 := range_cell rx 0 rfl; have rx_1 := range_cell rx 1 rfl; have rx_2 := range_cell rx 2 rfl; have rx_3 := range_cell rx 3 rfl
  go_wp2_with fail
  refine (C2.out _).mono ?_; rintro e w4 ⟨rfl, hb⟩; have hz := hb.size; try simp only [World.size_alloc, World.heap_drewN] at hz
  have HB4 := Lib.hid (show Below w.heap.size w w4 from by have := HB3.out; exact (by with_reducible repeat (first | exact Below.refl _ _ | apply kalloc | apply kept_drewN | (refine kset ?_ (by first | (simp; done) | (simp; omega)) _) | assumption | (refine bthru (by assumption) ?_))))
  have z_rx : (w.heap.size) < w4.heap.size := (by omega); have rx : w4.rangeAt (w.heap.size) 0 [.int .i64 i0, .int .i64 m, .int .i64 c, .int .i64 p] := (by with_reducible repeat (first | exact range_new_at _ _ _ (by first | omega | (simp; done) | (simp; omega)) | apply range_put | (with_unfolding_all rfl) | (refine range_alloc ?_ (by first | omega | (simp; done) | (simp; omega)) _) | (refine range_drewN ?_ _) | (refine range_far ?_ (by first | omega | (simp; done) | (simp; omega)) _) | assumption | (refine range_below ?_ (by assumption) (by first | omega | (simp; done) | (simp; omega)))))
  have z_ra : (w1.heap.size) < w4.heap.size := (by omega); have ra : w4.rangeAt (w1.heap.size) 0 [.int .i64 xi, .int .i64 0, .int .i64 0, .int .i64 0] := (by with_reducible repeat (first | exact range_new_at _ _ _ (by first | omega | (simp; done) | (simp; omega)) | apply range_put | (with_unfolding_all rfl) | (refine range_alloc ?_ (by first | omega | (simp; done) | (simp; omega)) _) | (refine range_drewN ?_ _) | (refine range_far ?_ (by first | omega | (simp; done) | (simp; omega)) _) | assumption | (refine range_below ?_ (by assumption) (by first | omega | (simp; done) | (simp; omega)))))
  have z_rb : (w2.heap.size) < w4.heap.size := (by omega); have rb : w4.rangeAt (w2.heap.size) 0 [.int .i64 xi, .int .i64 0, .int .i64 0, .int .i64 0] := (by with_reducible repeat (first | exact range_new_at _ _ _ (by first | omega | (simp; done) | (simp; omega)) | apply range_put | (with_unfolding_all rfl) | (refine range_alloc ?_ (by first | omega | (simp; done) | (simp; omega)) _) | (refine range_drewN ?_ _) | (refine range_far ?_ (by first | omega | (simp; done) | (simp; omega)) _) | assumption | (refine range_below ?_ (by assumption) (by first | omega | (simp; done) | (simp; omega)))))
  have z_rc : (w3.heap.size) < w4.heap.size := (by omega); have rc : w4.rangeAt (w3.heap.size) 0 [.int .i64 xi, .int .i64 xm, .int .i64 xc, .int .i64 xp] := (by with_reducible repeat (first | exact range_new_at _ _ _ (by first | omega | (simp; done) | (simp; omega)) | apply range_put | (with_unfolding_all rfl) | (refine range_alloc ?_ (by first | omega | (simp; done) | (simp; omega)) _) | (refine range_drewN ?_ _) | (refine range_far ?_ (by first | omega | (simp; done) | (simp; omega)) _) | assumption | (refine range_below ?_ (by assumption) (by first | omega | (simp; done) | (simp; omega)))))
  clear hb
  go_wp2_with fail
  refine region_below (by kernel_rfl) (by kernel_rfl) ?_; intro wR HW
  have HBR := Lib.hid (show Below w.heap.size w wR from by have := HB4.out; rw [← HW.out]; exact (by with_reducible repeat (first | exact Below.refl _ _ | apply kalloc | apply kept_drewN | (refine kset ?_ (by first | (simp; done) | (simp; omega)) _) | assumption | (refine bthru (by assumption) ?_))))
  have sx : wR.rangeAt w.heap.size 0 [.int .i64 i0, .int .i64 m, .int .i64 c, .int .i64 p] := by rw [← HW.out]; exact (by with_reducible repeat (first | exact range_new_at _ _ _ (by first | omega | (simp; done) | (simp; omega)) | apply range_put | (with_unfolding_all rfl) | (refine range_alloc ?_ (by first | omega | (simp; done) | (simp; omega)) _) | (refine range_drewN ?_ _) | (refine range_far ?_ (by first | omega | (simp; done) | (simp; omega)) _) | assumption | (refine range_below ?_ (by assumption) (by first | omega | (simp; done) | (simp; omega)))))
  have sa : wR.rangeAt w1.heap.size 0 [.int .i64 xi, .int .i64 0, .int .i64 0, .int .i64 0] := by rw [← HW.out]; exact (by with_reducible repeat (first | exact range_new_at _ _ _ (by first | omega | (simp; done) | (simp; omega)) | apply range_put | (with_unfolding_all rfl) | (refine range_alloc ?_ (by first | omega | (simp; done) | (simp; omega)) _) | (refine range_drewN ?_ _) | (refine range_far ?_ (by first | omega | (simp; done) | (simp; omega)) _) | assumption | (refine range_below ?_ (by assumption) (by first | omega | (simp; done) | (simp; omega)))))
  have sb : wR.rangeAt w2.heap.size 0 [.int .i64 xi, .int .i64 0, .int .i64 0, .int .i64 0] := by rw [← HW.out]; exact (by with_reducible repeat (first | exact range_new_at _ _ _ (by first | omega | (simp; done) | (simp; omega)) | apply range_put | (with_unfolding_all rfl) | (refine range_alloc ?_ (by first | omega | (simp; done) | (simp; omega)) _) | (refine range_drewN ?_ _) | (refine range_far ?_ (by first | omega | (simp; done) | (simp; omega)) _) | assumption | (refine range_below ?_ (by assumption) (by first | omega | (simp; done) | (simp; omega)))))
  have sc : wR.rangeAt w3.heap.size 0 [.int .i64 xi, .int .i64 xm, .int .i64 xc, .int .i64 xp] := by rw [← HW.out]; exact (by with_reducible repeat (first | exact range_new_at _ _ _ (by first | omega | (simp; done) | (simp; omega)) | apply range_put | (with_unfolding_all rfl) | (refine range_alloc ?_ (by first | omega | (simp; done) | (simp; omega)) _) | (refine range_drewN ?_ _) | (refine range_far ?_ (by first | omega | (simp; done) | (simp; omega)) _) | assumption | (refine range_below ?_ (by assumption) (by first | omega | (simp; done) | (simp; omega)))))
  have sd : wR.rangeAt w4.heap.size 0 [.int .i64 xi, .int .i64 xm, .int .i64 xc, .int .i64 xp] := by rw [← HW.out]; exact (by with_reducible repeat (first | exact range_new_at _ _ _ (by first | omega | (simp; done) | (simp; omega)) | apply range_put | (with_unfolding_all rfl) | (refine range_alloc ?_ (by first | omega | (simp; done) | (simp; omega)) _) | (refine range_drewN ?_ _) | (refine range_far ?_ (by first | omega | (simp; done) | (simp; omega)) _) | assumption | (refine range_below ?_ (by assumption) (by first | omega | (simp; done) | (simp; omega)))))
  clear rx ra rb rc rx_0 rx_1 rx_2 rx_3
  have sx_0 := cell_regrown (range_cell sx 0 rfl); have sx_1 := cell_regrown (range_cell sx 1 rfl); have sx_2 := cell_regrown (range_cell sx 2 rfl); have sx_3 := cell_regrown (range_cell sx 3 rfl)
  have sa_0 := cell_regrown (range_cell sa 0 rfl); have sa_1 := cell_regrown (range_cell sa 1 rfl); have sa_2 := cell_regrown (range_cell sa 2 rfl); have sa_3 := cell_regrown (range_cell sa 3 rfl)
  have sb_0 := cell_regrown (range_cell sb 0 rfl); have sb_1 := cell_regrown (range_cell sb 1 rfl); have sb_2 := cell_regrown (range_cell sb 2 rfl); have sb_3 := cell_regrown (range_cell sb 3 rfl)
  have sc_0 := cell_regrown (range_cell sc 0 rfl); have sc_1 := cell_regrown (range_cell sc 1 rfl); have sc_2 := cell_regrown (range_cell sc 2 rfl); have sc_3 := cell_regrown (range_cell sc 3 rfl)
  have sd_0 := cell_regrown (range_cell sd 0 rfl); have sd_1 := cell_regrown (range_cell sd 1 rfl); have sd_2 := cell_regrown (range_cell sd 2 rfl); have sd_3 := cell_regrown (range_cell sd 3 rfl)
  clear sx sa sb sc sd
  (repeat (quiet_step (first | with_reducible exact Calls.regrown_of (awake6_any _) | with_reducible exact Calls.regrown_of (nright_any _ _ _ _ _ _) | with_reducible exact Calls.regrown_of (refNright_any _ _ _ _ _ _) | with_reducible exact Calls.regrown_of (nwake_any _ _ _ _ _) | with_reducible exact Calls.regrown_of (refNwake_any _ _ _ _ _)))); refine wpQuiet_nil ?_; intro w2 hb2
  go_wp2
  go_ret
  exact ⟨rfl, HBR.out.trans (hb2.mono HBR.out.size)⟩
theorem Node.cleaned_in (n i m c p : Int) (h : Conf.err n i = 0) : Node.cleaned n i m c p = #[.int .i64 i, .int .i64 (Node.mode m), .int .i64 (Node.count c), .int .i64 (Node.pos n m p)] := by
  unfold Node.cleaned
  rw [if_pos h]
/-- What NodeClean asks of a node behind it. -/
def Node.asked (n k i m c p : Int) : Bool := Node.right n i m c p == true && m != 0 && i == k
set_option maxHeartbeats 1000000 in
theorem nodeClean_walk (n : Nat) (hn : n < 256) (i : Nat) (hi : i < 256) (i0 : Int) (hi0 : -9223372036854775808 ≤ i0 ∧ i0 ≤ 9223372036854775807) (m : Int) (hm : -9223372036854775808 ≤ m ∧ m ≤ 9223372036854775807) (c : Int) (hc : -9223372036854775808 ≤ c ∧ c ≤ 9223372036854775807) (p : Int) (hp : -9223372036854775808 ≤ p ∧ p ≤ 9223372036854775807) (w : World) :
    Calls Try.prog 4 #[.int .u8 n, .int .u8 i, .agg #[.int .i64 i0, .int .i64 m, .int .i64 c, .int .i64 p]] w fun e w' => e = .returned (.bool true) ∧ Below w.heap.size w w' := by
  go_enter Try.func4, Try.ntmps4
  go_wp2_with fail
  have m1 : (3 : Int) ≤ 3 + (n : Int) % 6 := by omega
  have m8 : 3 + (n : Int) % 6 ≤ 8 := by omega
  generalize 3 + (n : Int) % 6 = M at *
  have a0 := Int.emod_nonneg (i : Int) (b := M) (by omega)
  have a1 := Int.emod_lt_of_pos (i : Int) (b := M) (by omega)
  generalize (i : Int) % M = k at *
  have hR : Conf.right M = true := Conf.right_spec.2 (by omega)
  have hE : Conf.err M k = 0 := (Node.err_zero M k).2 (by omega)
  have C1 := Lib.hid (fun w => nclean_any M k i0 m c p hc w)
  have cb : -9223372036854775808 ≤ Node.count c ∧ Node.count c ≤ 9223372036854775807 := by unfold Node.count Tally.clamp; (repeat split) <;> omega
  have C2 := Lib.hid (fun w => nclean_any M k k (Node.mode m) (Node.count c) (Node.pos M m p) cb w)
  rw [Node.cleaned_in _ _ _ _ _ hE, hE] at C1
  rw [Node.cleaned_in _ _ _ _ _ hE, hE, Node.mode_mode, Node.count_count, Node.pos_pos _ _ _ hR] at C2
  have RC := Lib.hid (Node.right_clean M k m c p hR (by omega))
  have RW := Lib.hid (show Node.right M k 1 0 0 = true by unfold Node.right; simp; omega)
  have SAME := Lib.hid (Node.clean_right M i0 m c p)
  have hm0 : (Node.mode m == 0) = false := by unfold Node.mode; split <;> simp <;> omega
  clear hE hR cb
  generalize Node.mode m = xm at *
  generalize Node.count c = xc at *
  generalize Node.pos M m p = xp at *
  go_wp2_with fail
  refine (C1.out _).mono ?_; rintro e w1 ⟨rfl, hb⟩; have hz := hb.size; try simp only [World.size_alloc, World.heap_drewN] at hz
  have HB1 := Lib.hid (show Below w.heap.size w w1 from (by with_reducible repeat (first | exact Below.refl _ _ | apply kalloc | apply kept_drewN | (refine kset ?_ (by first | (simp; done) | (simp; omega)) _) | assumption | (refine bthru (by assumption) ?_))))
  have z_rx : (w.heap.size) < w1.heap.size := (by omega); have rx : w1.rangeAt (w.heap.size) 0 [.int .i64 i0, .int .i64 m, .int .i64 c, .int .i64 p] := (by with_reducible repeat (first | exact range_new_at _ _ _ (by first | omega | (simp; done) | (simp; omega)) | apply range_put | (with_unfolding_all rfl) | (refine range_alloc ?_ (by first | omega | (simp; done) | (simp; omega)) _) | (refine range_drewN ?_ _) | (refine range_far ?_ (by first | omega | (simp; done) | (simp; omega)) _) | assumption | (refine range_below ?_ (by assumption) (by first | omega | (simp; done) | (simp; omega)))))
  clear hb
  go_wp2_with fail
  refine (C2.out _).mono ?_; rintro e w2 ⟨rfl, hb⟩; have hz := hb.size; try simp only [World.size_alloc, World.heap_drewN] at hz
  have HB2 := Lib.hid (show Below w.heap.size w w2 from by have := HB1.out; exact (by with_reducible repeat (first | exact Below.refl _ _ | apply kalloc | apply kept_drewN | (refine kset ?_ (by first | (simp; done) | (simp; omega)) _) | assumption | (refine bthru (by assumption) ?_))))
  have z_rx : (w.heap.size) < w2.heap.size := (by omega); have rx : w2.rangeAt (w.heap.size) 0 [.int .i64 i0, .int .i64 m, .int .i64 c, .int .i64 p] := (by with_reducible repeat (first | exact range_new_at _ _ _ (by first | omega | (simp; done) | (simp; omega)) | apply range_put | (with_unfolding_all rfl) | (refine range_alloc ?_ (by first | omega | (simp; done) | (simp; omega)) _) | (refine range_drewN ?_ _) | (refine range_far ?_ (by first | omega | (simp; done) | (simp; omega)) _) | assumption | (refine range_below ?_ (by assumption) (by first | omega | (simp; done) | (simp; omega)))))
  have z_ra : (w1.heap.size) < w2.heap.size := (by omega); have ra : w2.rangeAt (w1.heap.size) 0 [.int .i64 k, .int .i64 xm, .int .i64 xc, .int .i64 xp] := (by with_reducible repeat (first | exact range_new_at _ _ _ (by first | omega | (simp; done) | (simp; omega)) | apply range_put | (with_unfolding_all rfl) | (refine range_alloc ?_ (by first | omega | (simp; done) | (simp; omega)) _) | (refine range_drewN ?_ _) | (refine range_far ?_ (by first | omega | (simp; done) | (simp; omega)) _) | assumption | (refine range_below ?_ (by assumption) (by first | omega | (simp; done) | (simp; omega)))))
  clear hb
  have ra_0 := range_cell ra 0 rfl; have ra_1 := range_cell ra 1 rfl; have ra_2 := range_cell ra 2 rfl; have ra_3 := range_cell ra 3 rfl
  go_wp2_with fail
  refine (nright_any _ _ _ _ _ _).mono ?_; rintro e w3 ⟨rfl, hb⟩; have hz := hb.size; try simp only [World.size_alloc, World.heap_drewN] at hz
  rw [RC.out]
  have HB3 := Lib.hid (show Below w.heap.size w w3 from by have := HB2.out; exact (by with_reducible repeat (first | exact Below.refl _ _ | apply kalloc | apply kept_drewN | (refine kset ?_ (by first | (simp; done) | (simp; omega)) _) | assumption | (refine bthru (by assumption) ?_))))
  have z_rx : (w.heap.size) < w3.heap.size := (by omega); have rx : w3.rangeAt (w.heap.size) 0 [.int .i64 i0, .int .i64 m, .int .i64 c, .int .i64 p] := (by with_reducible repeat (first | exact range_new_at _ _ _ (by first | omega | (simp; done) | (simp; omega)) | apply range_put | (with_unfolding_all rfl) | (refine range_alloc ?_ (by first | omega | (simp; done) | (simp; omega)) _) | (refine range_drewN ?_ _) | (refine range_far ?_ (by first | omega | (simp; done) | (simp; omega)) _) | assumption | (refine range_below ?_ (by assumption) (by first | omega | (simp; done) | (simp; omega)))))
  have z_ra : (w1.heap.size) < w3.heap.size := (by omega); have ra : w3.rangeAt (w1.heap.size) 0 [.int .i64 k, .int .i64 xm, .int .i64 xc, .int .i64 xp] := (by with_reducible repeat (first | exact range_new_at _ _ _ (by first | omega | (simp; done) | (simp; omega)) | apply range_put | (with_unfolding_all rfl) | (refine range_alloc ?_ (by first | omega | (simp; done) | (simp; omega)) _) | (refine range_drewN ?_ _) | (refine range_far ?_ (by first | omega | (simp; done) | (simp; omega)) _) | assumption | (refine range_below ?_ (by assumption) (by first | omega | (simp; done) | (simp; omega)))))
  clear hb
  have ra_0 := range_cell ra 0 rfl; have ra_1 := range_cell ra 1 rfl; have ra_2 := range_cell ra 2 rfl; have ra_3 := range_cell ra 3 rfl
  go_wp2_with fail
  refine (awake6_any _).mono ?_; rintro e w4 ⟨rfl, hb⟩; have hz := hb.size; try simp only [World.size_alloc, World.heap_drewN] at hz
  have HB4 := Lib.hid (show Below w.heap.size w w4 from by have := HB3.out; exact (by with_reducible repeat (first | exact Below.refl _ _ | apply kalloc | apply kept_drewN | (refine kset ?_ (by first | (simp; done) | (simp; omega)) _) | assumption | (refine bthru (by assumption) ?_))))
  have z_rx : (w.heap.size) < w4.heap.size := (by omega); have rx : w4.rangeAt (w.heap.size) 0 [.int .i64 i0, .int .i64 m, .int .i64 c, .int .i64 p] := (by with_reducible repeat (first | exact range_new_at _ _ _ (by first | omega | (simp; done) | (simp; omega)) | apply range_put | (with_unfolding_all rfl) | (refine range_alloc ?_ (by first | omega | (simp; done) | (simp; omega)) _) | (refine range_drewN ?_ _) | (refine range_far ?_ (by first | omega | (simp; done) | (simp; omega)) _) | assumption | (refine range_below ?_ (by assumption) (by first | omega | (simp; done) | (simp; omega)))))
  have z_ra : (w1.heap.size) < w4.heap.size := (by omega); have ra : w4.rangeAt (w1.heap.size) 0 [.int .i64 k, .int .i64 xm, .int .i64 xc, .int .i64 xp] := (by with_reducible repeat (first | exact range_new_at _ _ _ (by first | omega | (simp; done) | (simp; omega)) | apply range_put | (with_unfolding_all rfl) | (refine range_alloc ?_ (by first | omega | (simp; done) | (simp; omega)) _) | (refine range_drewN ?_ _) | (refine range_far ?_ (by first | omega | (simp; done) | (simp; omega)) _) | assumption | (refine range_below ?_ (by assumption) (by first | omega | (simp; done) | (simp; omega)))))
  clear hb
  have rx_0 := range_cell rx 0 rfl; have rx_1 := range_cell rx 1 rfl; have rx_2 := range_cell rx 2 rfl; have rx_3 := range_cell rx 3 rfl
  go_wp2_with fail
  refine (nright_any _ _ _ _ _ _).mono ?_; rintro e w5 ⟨rfl, hb⟩; have hz := hb.size; try simp only [World.size_alloc, World.heap_drewN] at hz
  have HB5 := Lib.hid (show Below w.heap.size w w5 from by have := HB4.out; exact (by with_reducible repeat (first | exact Below.refl _ _ | apply kalloc | apply kept_drewN | (refine kset ?_ (by first | (simp; done) | (simp; omega)) _) | assumption | (refine bthru (by assumption) ?_))))
  have z_rx : (w.heap.size) < w5.heap.size := (by omega); have rx : w5.rangeAt (w.heap.size) 0 [.int .i64 i0, .int .i64 m, .int .i64 c, .int .i64 p] := (by with_reducible repeat (first | exact range_new_at _ _ _ (by first | omega | (simp; done) | (simp; omega)) | apply range_put | (with_unfolding_all rfl) | (refine range_alloc ?_ (by first | omega | (simp; done) | (simp; omega)) _) | (refine range_drewN ?_ _) | (refine range_far ?_ (by first | omega | (simp; done) | (simp; omega)) _) | assumption | (refine range_below ?_ (by assumption) (by first | omega | (simp; done) | (simp; omega)))))
  have z_ra : (w1.heap.size) < w5.heap.size := (by omega); have ra : w5.rangeAt (w1.heap.size) 0 [.int .i64 k, .int .i64 xm, .int .i64 xc, .int .i64 xp] := (by with_reducible repeat (first | exact range_new_at _ _ _ (by first | omega | (simp; done) | (simp; omega)) | apply range_put | (with_unfolding_all rfl) | (refine range_alloc ?_ (by first | omega | (simp; done) | (simp; omega)) _) | (refine range_drewN ?_ _) | (refine range_far ?_ (by first | omega | (simp; done) | (simp; omega)) _) | assumption | (refine range_below ?_ (by assumption) (by first | omega | (simp; done) | (simp; omega)))))
  clear hb
  by_cases hr : Node.right M i0 m c p = true
  · rw [hr]
    have rx_0 := range_cell rx 0 rfl; have rx_1 := range_cell rx 1 rfl; have rx_2 := range_cell rx 2 rfl; have rx_3 := range_cell rx 3 rfl
    have ra_0 := range_cell ra 0 rfl; have ra_1 := range_cell ra 1 rfl; have ra_2 := range_cell ra 2 rfl; have ra_3 := range_cell ra 3 rfl
    by_cases hm1 : m = 0
    · have hm2 : (m == 0) = true := by simp [hm1]
      clear hm1
      go_wp2_with fail
      refine (nwake_any _ _ _ _ _).mono ?_; rintro e w6 ⟨rfl, hb⟩; have hz := hb.size; try simp only [World.size_alloc, World.heap_drewN] at hz
      go_wp2_with fail
      refine (nright_any _ _ _ _ _ _).mono ?_; rintro e w7 ⟨rfl, hb⟩; have hz := hb.size; try simp only [World.size_alloc, World.heap_drewN] at hz
      rw [RW.out]
      have := HB5.out
      go_wp2
      go_ret
      exact ⟨rfl, (by with_reducible repeat (first | exact Below.refl _ _ | apply kalloc | apply kept_drewN | (refine kset ?_ (by first | (simp; done) | (simp; omega)) _) | assumption | (refine bthru (by assumption) ?_)))⟩
    · have hm2 : (m == 0) = false := by simp [hm1]
      by_cases hk : i0 = k
      · obtain ⟨rfl, rfl, rfl⟩ := SAME.out hr hm1
        subst hk
        clear hm1
        go_wp2_with fail
        refine (nwake_any _ _ _ _ _).mono ?_; rintro e w6 ⟨rfl, hb⟩; have hz := hb.size; try simp only [World.size_alloc, World.heap_drewN] at hz
        go_wp2_with fail
        refine (nright_any _ _ _ _ _ _).mono ?_; rintro e w7 ⟨rfl, hb⟩; have hz := hb.size; try simp only [World.size_alloc, World.heap_drewN] at hz
        rw [RW.out]
        have := HB5.out
        go_wp2
        go_ret
        exact ⟨rfl, (by with_reducible repeat (first | exact Below.refl _ _ | apply kalloc | apply kept_drewN | (refine kset ?_ (by first | (simp; done) | (simp; omega)) _) | assumption | (refine bthru (by assumption) ?_)))⟩
      · have hk2 : (i0 != k) = true := by simp [hk]
        clear hm1 hk
        go_wp2_with fail
        refine (nwake_any _ _ _ _ _).mono ?_; rintro e w6 ⟨rfl, hb⟩; have hz := hb.size; try simp only [World.size_alloc, World.heap_drewN] at hz
        go_wp2_with fail
        refine (nright_any _ _ _ _ _ _).mono ?_; rintro e w7 ⟨rfl, hb⟩; have hz := hb.size; try simp only [World.size_alloc, World.heap_drewN] at hz
        rw [RW.out]
        have := HB5.out
        go_wp2
        go_ret
        exact ⟨rfl, (by with_reducible repeat (first | exact Below.refl _ _ | apply kalloc | apply kept_drewN | (refine kset ?_ (by first | (simp; done) | (simp; omega)) _) | assumption | (refine bthru (by assumption) ?_)))⟩
  · rw [Bool.eq_false_iff.2 hr]
    have ra_0 := range_cell ra 0 rfl; have ra_1 := range_cell ra 1 rfl; have ra_2 := range_cell ra 2 rfl; have ra_3 := range_cell ra 3 rfl
    go_wp2_with fail
    refine (nwake_any _ _ _ _ _).mono ?_; rintro e w6 ⟨rfl, hb⟩; have hz := hb.size; try simp only [World.size_alloc, World.heap_drewN] at hz
    go_wp2_with fail
    refine (nright_any _ _ _ _ _ _).mono ?_; rintro e w7 ⟨rfl, hb⟩; have hz := hb.size; try simp only [World.size_alloc, World.heap_drewN] at hz
    rw [RW.out]
    have := HB5.out
    go_wp2
    go_ret
    exact ⟨rfl, (by with_reducible repeat (first | exact Below.refl _ _ | apply kalloc | apply kept_drewN | (refine kset ?_ (by first | (simp; done) | (simp; omega)) _) | assumption | (refine bthru (by assumption) ?_)))⟩
end Go.Proofs.Ytaienpbkinbmnaa
