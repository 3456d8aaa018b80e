
import Derived.Test.YtjkdmnodamcjnaaRows
import Derived.Test.YtjkdmnodamcjnaaActA
import Derived.LoopTactic
import Derived.Deep.QuietTactic
import Derived.BigQuiet
import Derived.RegionTactic
namespace Go.Proofs.Ytjkdmnodamcjnaa
set_option linter.unusedVariables false
set_option linter.unusedSimpArgs false
open Go.ChangeShapes Go.WideShapes Go.RowKit

set_option maxHeartbeats 1000000 in
theorem goActive_any (i c p n k0 i0 k1 i1 : Int) (s : Bool) (hn : 3 ≤ n ∧ n ≤ 8) (hc : 0 ≤ c ∧ c ≤ 1073741824) (hp : 0 ≤ p ∧ p < n) (w : World) :
    Calls Try.prog 28 #[.agg #[.int .i64 i, .int .i64 3, .int .i64 c, .int .i64 p, .int .i64 n, .int .i64 k0, .int .i64 i0, .int .i64 k1, .int .i64 i1, .bool s]] w fun e w' => e = .returned (Act.val (Act.active n i c p (Hear.isWrong p k0 i0 || Hear.isWrong p k1 i1) (Hear.isOther i k0 i0 || Hear.isOther i k1 i1) (Hear.isMatch p k0 i0 || Hear.isMatch p k1 i1))) ∧ Below w.heap.size w w' := by
  have CR := Lib.hid (fun w => wrong_any k0 i0 k1 i1 p w)
  have CO := Lib.hid (fun w => other_any k0 i0 k1 i1 i w)
  have CM := Lib.hid (fun w => match_any k0 i0 k1 i1 p w)
  generalize (Hear.isWrong p k0 i0 || Hear.isWrong p k1 i1) = b1 at *
  generalize (Hear.isOther i k0 i0 || Hear.isOther i k1 i1) = b2 at *
  generalize Hear.firstI (Hear.isOther i k0 i0) (Hear.isOther i k1 i1) i0 i1 = d2 at *
  generalize (Hear.isMatch p k0 i0 || Hear.isMatch p k1 i1) = b3 at *
  cases b1
  · cases b2
    · cases b3
      · have CW := Lib.hid (fun w => cWatch_any n w)
        rw [Conf.tm_yes (Conf.right_spec.2 hn)] at CW
        have hu := Act.up_bounds c
        by_cases hw : 8 * n ≤ Act.up c
        · rw [show Act.val (Act.active n i c p false false false) = .agg #[.int .i64 i, .int .i64 1, .int .i64 0, .int .i64 0] by
            unfold Act.active; simp [hw, Act.val]]
          have CU := Lib.hid (fun w => goUp_any i 3 c p n k0 i0 k1 i1 s hc w)
          generalize Act.up c = u at *
          have hd : decide (8 * n ≤ u) = true := decide_eq_true hw
          go_enter Try.func28, Try.ntmps28
          go_wp2_with fail
          refine (CR.out _).mono ?_; rintro e wa ⟨rfl, hb⟩; have hz := hb.size; (try simp only [World.size_alloc, World.heap_drewN, World.size_drew, World.size_setCell] at hz)
          have HB1 := Lib.hid (show Below w.heap.size w wa from bel)
          have z_ra : (w.heap.size) < wa.heap.size := (by omega); replace ra : wa.rangeAt (w.heap.size) 0 [.int .i64 i, .int .i64 3, .int .i64 c, .int .i64 p, .int .i64 n, .int .i64 k0, .int .i64 i0, .int .i64 k1, .int .i64 i1, .bool s] := rng
          have z_rr : (w.heap.size + 1) < wa.heap.size := (by omega); replace rr : wa.rangeAt (w.heap.size + 1) 0 [.int .i64 0, .int .i64 0, .int .i64 0, .int .i64 0] := rng; replace f_rr : Free wa (w.heap.size + 1) := fre
          clear hb
          replace ra_0 := range_cell ra 0 rfl; replace ra_1 := range_cell ra 1 rfl; replace ra_2 := range_cell ra 2 rfl; replace ra_3 := range_cell ra 3 rfl; replace ra_4 := range_cell ra 4 rfl; replace ra_5 := range_cell ra 5 rfl; replace ra_6 := range_cell ra 6 rfl; replace ra_7 := range_cell ra 7 rfl; replace ra_8 := range_cell ra 8 rfl; replace ra_9 := range_cell ra 9 rfl
          replace rr_0 := range_cell rr 0 rfl; replace rr_1 := range_cell rr 1 rfl; replace rr_2 := range_cell rr 2 rfl; replace rr_3 := range_cell rr 3 rfl
          replace rr_f0 := f_rr 0; replace rr_f1 := f_rr 1; replace rr_f2 := f_rr 2; replace rr_f3 := f_rr 3
          go_wp2_with fail
          refine (CO.out _).mono ?_; rintro e wb ⟨rfl, hb⟩; have hz := hb.size; (try simp only [World.size_alloc, World.heap_drewN, World.size_drew, World.size_setCell] at hz)
          have HB2 := Lib.hid (show Below w.heap.size w wb from by have := HB1.out; exact bel)
          have z_ra : (w.heap.size) < wb.heap.size := (by omega); replace ra : wb.rangeAt (w.heap.size) 0 [.int .i64 i, .int .i64 3, .int .i64 c, .int .i64 p, .int .i64 n, .int .i64 k0, .int .i64 i0, .int .i64 k1, .int .i64 i1, .bool s] := rng
          have z_rr : (w.heap.size + 1) < wb.heap.size := (by omega); replace rr : wb.rangeAt (w.heap.size + 1) 0 [.int .i64 0, .int .i64 0, .int .i64 0, .int .i64 0] := rng; replace f_rr : Free wb (w.heap.size + 1) := fre
          clear hb
          replace ra_0 := range_cell ra 0 rfl; replace ra_1 := range_cell ra 1 rfl; replace ra_2 := range_cell ra 2 rfl; replace ra_3 := range_cell ra 3 rfl; replace ra_4 := range_cell ra 4 rfl; replace ra_5 := range_cell ra 5 rfl; replace ra_6 := range_cell ra 6 rfl; replace ra_7 := range_cell ra 7 rfl; replace ra_8 := range_cell ra 8 rfl; replace ra_9 := range_cell ra 9 rfl
          replace rr_0 := range_cell rr 0 rfl; replace rr_1 := range_cell rr 1 rfl; replace rr_2 := range_cell rr 2 rfl; replace rr_3 := range_cell rr 3 rfl
          replace rr_f0 := f_rr 0; replace rr_f1 := f_rr 1; replace rr_f2 := f_rr 2; replace rr_f3 := f_rr 3
          go_wp2_with fail
          refine (CM.out _).mono ?_; rintro e wc ⟨rfl, hb⟩; have hz := hb.size; (try simp only [World.size_alloc, World.heap_drewN, World.size_drew, World.size_setCell] at hz)
          have HB3 := Lib.hid (show Below w.heap.size w wc from by have := HB2.out; exact bel)
          have z_ra : (w.heap.size) < wc.heap.size := (by omega); replace ra : wc.rangeAt (w.heap.size) 0 [.int .i64 i, .int .i64 3, .int .i64 c, .int .i64 p, .int .i64 n, .int .i64 k0, .int .i64 i0, .int .i64 k1, .int .i64 i1, .bool s] := rng
          have z_rr : (w.heap.size + 1) < wc.heap.size := (by omega); replace rr : wc.rangeAt (w.heap.size + 1) 0 [.int .i64 0, .int .i64 0, .int .i64 0, .int .i64 0] := rng; replace f_rr : Free wc (w.heap.size + 1) := fre
          clear hb
          replace ra_0 := range_cell ra 0 rfl; replace ra_1 := range_cell ra 1 rfl; replace ra_2 := range_cell ra 2 rfl; replace ra_3 := range_cell ra 3 rfl; replace ra_4 := range_cell ra 4 rfl; replace ra_5 := range_cell ra 5 rfl; replace ra_6 := range_cell ra 6 rfl; replace ra_7 := range_cell ra 7 rfl; replace ra_8 := range_cell ra 8 rfl; replace ra_9 := range_cell ra 9 rfl
          replace rr_0 := range_cell rr 0 rfl; replace rr_1 := range_cell rr 1 rfl; replace rr_2 := range_cell rr 2 rfl; replace rr_3 := range_cell rr 3 rfl
          replace rr_f0 := f_rr 0; replace rr_f1 := f_rr 1; replace rr_f2 := f_rr 2; replace rr_f3 := f_rr 3
          go_wp2_with fail
          refine (CU.out _).mono ?_; rintro e wd ⟨rfl, hb⟩; have hz := hb.size; (try simp only [World.size_alloc, World.heap_drewN, World.size_drew, World.size_setCell] at hz)
          have HB4 := Lib.hid (show Below w.heap.size w wd from by have := HB3.out; exact bel)
          have z_ra : (w.heap.size) < wd.heap.size := (by omega); replace ra : wd.rangeAt (w.heap.size) 0 [.int .i64 i, .int .i64 3, .int .i64 c, .int .i64 p, .int .i64 n, .int .i64 k0, .int .i64 i0, .int .i64 k1, .int .i64 i1, .bool s] := rng
          have z_rr : (w.heap.size + 1) < wd.heap.size := (by omega); replace rr : wd.rangeAt (w.heap.size + 1) 0 [.int .i64 0, .int .i64 0, .int .i64 0, .int .i64 0] := rng; replace f_rr : Free wd (w.heap.size + 1) := fre
          clear hb
          replace ra_0 := range_cell ra 0 rfl; replace ra_1 := range_cell ra 1 rfl; replace ra_2 := range_cell ra 2 rfl; replace ra_3 := range_cell ra 3 rfl; replace ra_4 := range_cell ra 4 rfl; replace ra_5 := range_cell ra 5 rfl; replace ra_6 := range_cell ra 6 rfl; replace ra_7 := range_cell ra 7 rfl; replace ra_8 := range_cell ra 8 rfl; replace ra_9 := range_cell ra 9 rfl
          replace rr_0 := range_cell rr 0 rfl; replace rr_1 := range_cell rr 1 rfl; replace rr_2 := range_cell rr 2 rfl; replace rr_3 := range_cell rr 3 rfl
          replace rr_f0 := f_rr 0; replace rr_f1 := f_rr 1; replace rr_f2 := f_rr 2; replace rr_f3 := f_rr 3
          go_wp2_with fail
          refine region_below (by kernel_rfl) (by kernel_rfl) ?_; intro wR HW
          have HBR := Lib.hid (show Below w.heap.size w wR from by have := HB4.out; rw [← HW.out]; exact bel)
          have sa : wR.rangeAt w.heap.size 0 [.int .i64 i, .int .i64 3, .int .i64 c, .int .i64 p, .int .i64 n, .int .i64 k0, .int .i64 i0, .int .i64 k1, .int .i64 i1, .bool s] := by rw [← HW.out]; exact rng
          have sr : wR.rangeAt (w.heap.size + 1) 0 [.int .i64 0, .int .i64 0, .int .i64 0, .int .i64 0] := by rw [← HW.out]; exact rng
          have fr : Free wR (w.heap.size + 1) := by rw [← HW.out]; exact fre
          have sx : wR.rangeAt wd.heap.size 0 [.int .i64 i, .int .i64 3, .int .i64 u, .int .i64 p] := by rw [← HW.out]; exact rng
          have fx : Free wR wd.heap.size := by rw [← HW.out]; exact fre
          have zR : wd.heap.size < wR.heap.size := by rw [← HW.out]; simp
          clear ra rr f_rr ra_0 ra_1 ra_2 ra_3 ra_4 ra_5 ra_6 ra_7 ra_8 ra_9 rr_0 rr_1 rr_2 rr_3 rr_f0 rr_f1 rr_f2 rr_f3
          replace sa_0 := cell_regrown (range_cell sa 0 rfl); replace sa_1 := cell_regrown (range_cell sa 1 rfl); replace sa_2 := cell_regrown (range_cell sa 2 rfl); replace sa_3 := cell_regrown (range_cell sa 3 rfl); replace sa_4 := cell_regrown (range_cell sa 4 rfl); replace sa_5 := cell_regrown (range_cell sa 5 rfl); replace sa_6 := cell_regrown (range_cell sa 6 rfl); replace sa_7 := cell_regrown (range_cell sa 7 rfl); replace sa_8 := cell_regrown (range_cell sa 8 rfl); replace sa_9 := cell_regrown (range_cell sa 9 rfl)
          replace sx_0 := cell_regrown (range_cell sx 0 rfl); replace sx_1 := cell_regrown (range_cell sx 1 rfl); replace sx_2 := cell_regrown (range_cell sx 2 rfl); replace sx_3 := cell_regrown (range_cell sx 3 rfl)
          (repeat (quiet_step (first | with_reducible exact Calls.regrown_of (CW.out _)))); refine wpQuiet_nil ?_; intro w2 hb2
          have HB5 := Lib.hid (show Below w.heap.size w w2 from HBR.out.trans (hb2.mono HBR.out.size))
          have zs := hb2.size
          have z_ta : (w.heap.size) < w2.heap.size := (by omega); replace ta : w2.rangeAt (w.heap.size) 0 [.int .i64 i, .int .i64 3, .int .i64 c, .int .i64 p, .int .i64 n, .int .i64 k0, .int .i64 i0, .int .i64 k1, .int .i64 i1, .bool s] := rng
          have z_tr : (w.heap.size + 1) < w2.heap.size := (by omega); replace tr : w2.rangeAt (w.heap.size + 1) 0 [.int .i64 0, .int .i64 0, .int .i64 0, .int .i64 0] := rng; replace f_tr : Free w2 (w.heap.size + 1) := fre
          have z_tx : (wd.heap.size) < w2.heap.size := (by omega); replace tx : w2.rangeAt (wd.heap.size) 0 [.int .i64 i, .int .i64 3, .int .i64 u, .int .i64 p] := rng; replace f_tx : Free w2 (wd.heap.size) := fre
          clear hb2 sa_0 sa_1 sa_2 sa_3 sa_4 sa_5 sa_6 sa_7 sa_8 sa_9 sx_0 sx_1 sx_2 sx_3
          replace ta_0 := range_cell ta 0 rfl; replace ta_1 := range_cell ta 1 rfl; replace ta_2 := range_cell ta 2 rfl; replace ta_3 := range_cell ta 3 rfl; replace ta_4 := range_cell ta 4 rfl; replace ta_5 := range_cell ta 5 rfl; replace ta_6 := range_cell ta 6 rfl; replace ta_7 := range_cell ta 7 rfl; replace ta_8 := range_cell ta 8 rfl; replace ta_9 := range_cell ta 9 rfl
          replace tr_0 := range_cell tr 0 rfl; replace tr_1 := range_cell tr 1 rfl; replace tr_2 := range_cell tr 2 rfl; replace tr_3 := range_cell tr 3 rfl
          replace tr_f0 := f_tr 0; replace tr_f1 := f_tr 1; replace tr_f2 := f_tr 2; replace tr_f3 := f_tr 3
          replace tx_0 := range_cell tx 0 rfl; replace tx_1 := range_cell tx 1 rfl; replace tx_2 := range_cell tx 2 rfl; replace tx_3 := range_cell tx 3 rfl
          replace tx_f0 := f_tx 0; replace tx_f1 := f_tx 1; replace tx_f2 := f_tx 2; replace tx_f3 := f_tx 3
          go_wp2_with fail
          refine (nwake_any _ _ _ _ _).mono ?_; rintro e wf ⟨rfl, hb⟩; have hz := hb.size; (try simp only [World.size_alloc, World.heap_drewN, World.size_drew, World.size_setCell] at hz)
          have HB6 := Lib.hid (show Below w.heap.size w wf from by have := HB5.out; exact bel)
          have z_tr : (w.heap.size + 1) < wf.heap.size := (by omega); replace tr : wf.rangeAt (w.heap.size + 1) 0 [.int .i64 0, .int .i64 0, .int .i64 0, .int .i64 0] := rng; replace f_tr : Free wf (w.heap.size + 1) := fre
          clear hb
          replace tr_0 := range_cell tr 0 rfl; replace tr_1 := range_cell tr 1 rfl; replace tr_2 := range_cell tr 2 rfl; replace tr_3 := range_cell tr 3 rfl
          replace tr_f0 := f_tr 0; replace tr_f1 := f_tr 1; replace tr_f2 := f_tr 2; replace tr_f3 := f_tr 3
          have := HB6.out
          go_wp2
          refine bodyPost_ret (ret_cell Try.results28 (w.heap.size + 1) [.int .i64 i, .int .i64 1, .int .i64 0, .int .i64 0] _ rfl rng Try.underlying23 rfl (by kernel_rfl)) rfl ⟨rfl, ?_⟩; exact bel
        · rw [show Act.val (Act.active n i c p false false false) = .agg #[.int .i64 i, .int .i64 3, .int .i64 (Act.up c), .int .i64 ((p + 1) % n)] by
            unfold Act.active; simp [hw, Act.val]]
          have CU := Lib.hid (fun w => goUp_any i 3 c p n k0 i0 k1 i1 s hc w)
          generalize Act.up c = u at *
          have hd : decide (8 * n ≤ u) = false := decide_eq_false hw
          go_enter Try.func28, Try.ntmps28
          go_wp2_with fail
          refine (CR.out _).mono ?_; rintro e wa ⟨rfl, hb⟩; have hz := hb.size; (try simp only [World.size_alloc, World.heap_drewN, World.size_drew, World.size_setCell] at hz)
          have HB1 := Lib.hid (show Below w.heap.size w wa from bel)
          have z_ra : (w.heap.size) < wa.heap.size := (by omega); replace ra : wa.rangeAt (w.heap.size) 0 [.int .i64 i, .int .i64 3, .int .i64 c, .int .i64 p, .int .i64 n, .int .i64 k0, .int .i64 i0, .int .i64 k1, .int .i64 i1, .bool s] := rng
          have z_rr : (w.heap.size + 1) < wa.heap.size := (by omega); replace rr : wa.rangeAt (w.heap.size + 1) 0 [.int .i64 0, .int .i64 0, .int .i64 0, .int .i64 0] := rng; replace f_rr : Free wa (w.heap.size + 1) := fre
          clear hb
          replace ra_0 := range_cell ra 0 rfl; replace ra_1 := range_cell ra 1 rfl; replace ra_2 := range_cell ra 2 rfl; replace ra_3 := range_cell ra 3 rfl; replace ra_4 := range_cell ra 4 rfl; replace ra_5 := range_cell ra 5 rfl; replace ra_6 := range_cell ra 6 rfl; replace ra_7 := range_cell ra 7 rfl; replace ra_8 := range_cell ra 8 rfl; replace ra_9 := range_cell ra 9 rfl
          replace rr_0 := range_cell rr 0 rfl; replace rr_1 := range_cell rr 1 rfl; replace rr_2 := range_cell rr 2 rfl; replace rr_3 := range_cell rr 3 rfl
          replace rr_f0 := f_rr 0; replace rr_f1 := f_rr 1; replace rr_f2 := f_rr 2; replace rr_f3 := f_rr 3
          go_wp2_with fail
          refine (CO.out _).mono ?_; rintro e wb ⟨rfl, hb⟩; have hz := hb.size; (try simp only [World.size_alloc, World.heap_drewN, World.size_drew, World.size_setCell] at hz)
          have HB2 := Lib.hid (show Below w.heap.size w wb from by have := HB1.out; exact bel)
          have z_ra : (w.heap.size) < wb.heap.size := (by omega); replace ra : wb.rangeAt (w.heap.size) 0 [.int .i64 i, .int .i64 3, .int .i64 c, .int .i64 p, .int .i64 n, .int .i64 k0, .int .i64 i0, .int .i64 k1, .int .i64 i1, .bool s] := rng
          have z_rr : (w.heap.size + 1) < wb.heap.size := (by omega); replace rr : wb.rangeAt (w.heap.size + 1) 0 [.int .i64 0, .int .i64 0, .int .i64 0, .int .i64 0] := rng; replace f_rr : Free wb (w.heap.size + 1) := fre
          clear hb
          replace ra_0 := range_cell ra 0 rfl; replace ra_1 := range_cell ra 1 rfl; replace ra_2 := range_cell ra 2 rfl; replace ra_3 := range_cell ra 3 rfl; replace ra_4 := range_cell ra 4 rfl; replace ra_5 := range_cell ra 5 rfl; replace ra_6 := range_cell ra 6 rfl; replace ra_7 := range_cell ra 7 rfl; replace ra_8 := range_cell ra 8 rfl; replace ra_9 := range_cell ra 9 rfl
          replace rr_0 := range_cell rr 0 rfl; replace rr_1 := range_cell rr 1 rfl; replace rr_2 := range_cell rr 2 rfl; replace rr_3 := range_cell rr 3 rfl
          replace rr_f0 := f_rr 0; replace rr_f1 := f_rr 1; replace rr_f2 := f_rr 2; replace rr_f3 := f_rr 3
          go_wp2_with fail
          refine (CM.out _).mono ?_; rintro e wc ⟨rfl, hb⟩; have hz := hb.size; (try simp only [World.size_alloc, World.heap_drewN, World.size_drew, World.size_setCell] at hz)
          have HB3 := Lib.hid (show Below w.heap.size w wc from by have := HB2.out; exact bel)
          have z_ra : (w.heap.size) < wc.heap.size := (by omega); replace ra : wc.rangeAt (w.heap.size) 0 [.int .i64 i, .int .i64 3, .int .i64 c, .int .i64 p, .int .i64 n, .int .i64 k0, .int .i64 i0, .int .i64 k1, .int .i64 i1, .bool s] := rng
          have z_rr : (w.heap.size + 1) < wc.heap.size := (by omega); replace rr : wc.rangeAt (w.heap.size + 1) 0 [.int .i64 0, .int .i64 0, .int .i64 0, .int .i64 0] := rng; replace f_rr : Free wc (w.heap.size + 1) := fre
          clear hb
          replace ra_0 := range_cell ra 0 rfl; replace ra_1 := range_cell ra 1 rfl; replace ra_2 := range_cell ra 2 rfl; replace ra_3 := range_cell ra 3 rfl; replace ra_4 := range_cell ra 4 rfl; replace ra_5 := range_cell ra 5 rfl; replace ra_6 := range_cell ra 6 rfl; replace ra_7 := range_cell ra 7 rfl; replace ra_8 := range_cell ra 8 rfl; replace ra_9 := range_cell ra 9 rfl
          replace rr_0 := range_cell rr 0 rfl; replace rr_1 := range_cell rr 1 rfl; replace rr_2 := range_cell rr 2 rfl; replace rr_3 := range_cell rr 3 rfl
          replace rr_f0 := f_rr 0; replace rr_f1 := f_rr 1; replace rr_f2 := f_rr 2; replace rr_f3 := f_rr 3
          go_wp2_with fail
          refine (CU.out _).mono ?_; rintro e wd ⟨rfl, hb⟩; have hz := hb.size; (try simp only [World.size_alloc, World.heap_drewN, World.size_drew, World.size_setCell] at hz)
          have HB4 := Lib.hid (show Below w.heap.size w wd from by have := HB3.out; exact bel)
          have z_ra : (w.heap.size) < wd.heap.size := (by omega); replace ra : wd.rangeAt (w.heap.size) 0 [.int .i64 i, .int .i64 3, .int .i64 c, .int .i64 p, .int .i64 n, .int .i64 k0, .int .i64 i0, .int .i64 k1, .int .i64 i1, .bool s] := rng
          have z_rr : (w.heap.size + 1) < wd.heap.size := (by omega); replace rr : wd.rangeAt (w.heap.size + 1) 0 [.int .i64 0, .int .i64 0, .int .i64 0, .int .i64 0] := rng; replace f_rr : Free wd (w.heap.size + 1) := fre
          clear hb
          replace ra_0 := range_cell ra 0 rfl; replace ra_1 := range_cell ra 1 rfl; replace ra_2 := range_cell ra 2 rfl; replace ra_3 := range_cell ra 3 rfl; replace ra_4 := range_cell ra 4 rfl; replace ra_5 := range_cell ra 5 rfl; replace ra_6 := range_cell ra 6 rfl; replace ra_7 := range_cell ra 7 rfl; replace ra_8 := range_cell ra 8 rfl; replace ra_9 := range_cell ra 9 rfl
          replace rr_0 := range_cell rr 0 rfl; replace rr_1 := range_cell rr 1 rfl; replace rr_2 := range_cell rr 2 rfl; replace rr_3 := range_cell rr 3 rfl
          replace rr_f0 := f_rr 0; replace rr_f1 := f_rr 1; replace rr_f2 := f_rr 2; replace rr_f3 := f_rr 3
          go_wp2_with fail
          refine region_below (by kernel_rfl) (by kernel_rfl) ?_; intro wR HW
          have HBR := Lib.hid (show Below w.heap.size w wR from by have := HB4.out; rw [← HW.out]; exact bel)
          have sa : wR.rangeAt w.heap.size 0 [.int .i64 i, .int .i64 3, .int .i64 c, .int .i64 p, .int .i64 n, .int .i64 k0, .int .i64 i0, .int .i64 k1, .int .i64 i1, .bool s] := by rw [← HW.out]; exact rng
          have sr : wR.rangeAt (w.heap.size + 1) 0 [.int .i64 0, .int .i64 0, .int .i64 0, .int .i64 0] := by rw [← HW.out]; exact rng
          have fr : Free wR (w.heap.size + 1) := by rw [← HW.out]; exact fre
          have sx : wR.rangeAt wd.heap.size 0 [.int .i64 i, .int .i64 3, .int .i64 u, .int .i64 p] := by rw [← HW.out]; exact rng
          have fx : Free wR wd.heap.size := by rw [← HW.out]; exact fre
          have zR : wd.heap.size < wR.heap.size := by rw [← HW.out]; simp
          clear ra rr f_rr ra_0 ra_1 ra_2 ra_3 ra_4 ra_5 ra_6 ra_7 ra_8 ra_9 rr_0 rr_1 rr_2 rr_3 rr_f0 rr_f1 rr_f2 rr_f3
          replace sa_0 := cell_regrown (range_cell sa 0 rfl); replace sa_1 := cell_regrown (range_cell sa 1 rfl); replace sa_2 := cell_regrown (range_cell sa 2 rfl); replace sa_3 := cell_regrown (range_cell sa 3 rfl); replace sa_4 := cell_regrown (range_cell sa 4 rfl); replace sa_5 := cell_regrown (range_cell sa 5 rfl); replace sa_6 := cell_regrown (range_cell sa 6 rfl); replace sa_7 := cell_regrown (range_cell sa 7 rfl); replace sa_8 := cell_regrown (range_cell sa 8 rfl); replace sa_9 := cell_regrown (range_cell sa 9 rfl)
          replace sx_0 := cell_regrown (range_cell sx 0 rfl); replace sx_1 := cell_regrown (range_cell sx 1 rfl); replace sx_2 := cell_regrown (range_cell sx 2 rfl); replace sx_3 := cell_regrown (range_cell sx 3 rfl)
          (repeat (quiet_step (first | with_reducible exact Calls.regrown_of (CW.out _)))); refine wpQuiet_nil ?_; intro w2 hb2
          have HB5 := Lib.hid (show Below w.heap.size w w2 from HBR.out.trans (hb2.mono HBR.out.size))
          have zs := hb2.size
          have z_ta : (w.heap.size) < w2.heap.size := (by omega); replace ta : w2.rangeAt (w.heap.size) 0 [.int .i64 i, .int .i64 3, .int .i64 c, .int .i64 p, .int .i64 n, .int .i64 k0, .int .i64 i0, .int .i64 k1, .int .i64 i1, .bool s] := rng
          have z_tr : (w.heap.size + 1) < w2.heap.size := (by omega); replace tr : w2.rangeAt (w.heap.size + 1) 0 [.int .i64 0, .int .i64 0, .int .i64 0, .int .i64 0] := rng; replace f_tr : Free w2 (w.heap.size + 1) := fre
          have z_tx : (wd.heap.size) < w2.heap.size := (by omega); replace tx : w2.rangeAt (wd.heap.size) 0 [.int .i64 i, .int .i64 3, .int .i64 u, .int .i64 p] := rng; replace f_tx : Free w2 (wd.heap.size) := fre
          clear hb2 sa_0 sa_1 sa_2 sa_3 sa_4 sa_5 sa_6 sa_7 sa_8 sa_9 sx_0 sx_1 sx_2 sx_3
          replace ta_0 := range_cell ta 0 rfl; replace ta_1 := range_cell ta 1 rfl; replace ta_2 := range_cell ta 2 rfl; replace ta_3 := range_cell ta 3 rfl; replace ta_4 := range_cell ta 4 rfl; replace ta_5 := range_cell ta 5 rfl; replace ta_6 := range_cell ta 6 rfl; replace ta_7 := range_cell ta 7 rfl; replace ta_8 := range_cell ta 8 rfl; replace ta_9 := range_cell ta 9 rfl
          replace tr_0 := range_cell tr 0 rfl; replace tr_1 := range_cell tr 1 rfl; replace tr_2 := range_cell tr 2 rfl; replace tr_3 := range_cell tr 3 rfl
          replace tr_f0 := f_tr 0; replace tr_f1 := f_tr 1; replace tr_f2 := f_tr 2; replace tr_f3 := f_tr 3
          replace tx_0 := range_cell tx 0 rfl; replace tx_1 := range_cell tx 1 rfl; replace tx_2 := range_cell tx 2 rfl; replace tx_3 := range_cell tx 3 rfl
          replace tx_f0 := f_tx 0; replace tx_f1 := f_tx 1; replace tx_f2 := f_tx 2; replace tx_f3 := f_tx 3
          go_wp2_with fail
          refine (next_any n p (by omega) (by omega) hp.1 hp.2 _).mono ?_; rintro e w' ⟨rfl, rfl⟩
          have := HB5.out
          go_wp2
          refine bodyPost_ret (ret_cell Try.results28 (w.heap.size + 1) [.int .i64 i, .int .i64 3, .int .i64 u, .int .i64 ((p + 1) % n)] _ rfl rng Try.underlying23 rfl (by kernel_rfl)) rfl ⟨rfl, ?_⟩; exact bel
      · rw [show Act.val (Act.active n i c p false false true) = .agg #[.int .i64 i, .int .i64 3, .int .i64 0, .int .i64 ((p + 1) % n)] from rfl]
        go_enter Try.func28, Try.ntmps28
        go_wp2_with fail
        refine (CR.out _).mono ?_; rintro e wa ⟨rfl, hb⟩; have hz := hb.size; (try simp only [World.size_alloc, World.heap_drewN, World.size_drew, World.size_setCell] at hz)
        have HB1 := Lib.hid (show Below w.heap.size w wa from bel)
        have z_ra : (w.heap.size) < wa.heap.size := (by omega); replace ra : wa.rangeAt (w.heap.size) 0 [.int .i64 i, .int .i64 3, .int .i64 c, .int .i64 p, .int .i64 n, .int .i64 k0, .int .i64 i0, .int .i64 k1, .int .i64 i1, .bool s] := rng
        have z_rr : (w.heap.size + 1) < wa.heap.size := (by omega); replace rr : wa.rangeAt (w.heap.size + 1) 0 [.int .i64 0, .int .i64 0, .int .i64 0, .int .i64 0] := rng; replace f_rr : Free wa (w.heap.size + 1) := fre
        clear hb
        replace ra_0 := range_cell ra 0 rfl; replace ra_1 := range_cell ra 1 rfl; replace ra_2 := range_cell ra 2 rfl; replace ra_3 := range_cell ra 3 rfl; replace ra_4 := range_cell ra 4 rfl; replace ra_5 := range_cell ra 5 rfl; replace ra_6 := range_cell ra 6 rfl; replace ra_7 := range_cell ra 7 rfl; replace ra_8 := range_cell ra 8 rfl; replace ra_9 := range_cell ra 9 rfl
        replace rr_0 := range_cell rr 0 rfl; replace rr_1 := range_cell rr 1 rfl; replace rr_2 := range_cell rr 2 rfl; replace rr_3 := range_cell rr 3 rfl
        replace rr_f0 := f_rr 0; replace rr_f1 := f_rr 1; replace rr_f2 := f_rr 2; replace rr_f3 := f_rr 3
        go_wp2_with fail
        refine (CO.out _).mono ?_; rintro e wb ⟨rfl, hb⟩; have hz := hb.size; (try simp only [World.size_alloc, World.heap_drewN, World.size_drew, World.size_setCell] at hz)
        have HB2 := Lib.hid (show Below w.heap.size w wb from by have := HB1.out; exact bel)
        have z_ra : (w.heap.size) < wb.heap.size := (by omega); replace ra : wb.rangeAt (w.heap.size) 0 [.int .i64 i, .int .i64 3, .int .i64 c, .int .i64 p, .int .i64 n, .int .i64 k0, .int .i64 i0, .int .i64 k1, .int .i64 i1, .bool s] := rng
        have z_rr : (w.heap.size + 1) < wb.heap.size := (by omega); replace rr : wb.rangeAt (w.heap.size + 1) 0 [.int .i64 0, .int .i64 0, .int .i64 0, .int .i64 0] := rng; replace f_rr : Free wb (w.heap.size + 1) := fre
        clear hb
        replace ra_0 := range_cell ra 0 rfl; replace ra_1 := range_cell ra 1 rfl; replace ra_2 := range_cell ra 2 rfl; replace ra_3 := range_cell ra 3 rfl; replace ra_4 := range_cell ra 4 rfl; replace ra_5 := range_cell ra 5 rfl; replace ra_6 := range_cell ra 6 rfl; replace ra_7 := range_cell ra 7 rfl; replace ra_8 := range_cell ra 8 rfl; replace ra_9 := range_cell ra 9 rfl
        replace rr_0 := range_cell rr 0 rfl; replace rr_1 := range_cell rr 1 rfl; replace rr_2 := range_cell rr 2 rfl; replace rr_3 := range_cell rr 3 rfl
        replace rr_f0 := f_rr 0; replace rr_f1 := f_rr 1; replace rr_f2 := f_rr 2; replace rr_f3 := f_rr 3
        go_wp2_with fail
        refine (CM.out _).mono ?_; rintro e wc ⟨rfl, hb⟩; have hz := hb.size; (try simp only [World.size_alloc, World.heap_drewN, World.size_drew, World.size_setCell] at hz)
        have HB3 := Lib.hid (show Below w.heap.size w wc from by have := HB2.out; exact bel)
        have z_ra : (w.heap.size) < wc.heap.size := (by omega); replace ra : wc.rangeAt (w.heap.size) 0 [.int .i64 i, .int .i64 3, .int .i64 c, .int .i64 p, .int .i64 n, .int .i64 k0, .int .i64 i0, .int .i64 k1, .int .i64 i1, .bool s] := rng
        have z_rr : (w.heap.size + 1) < wc.heap.size := (by omega); replace rr : wc.rangeAt (w.heap.size + 1) 0 [.int .i64 0, .int .i64 0, .int .i64 0, .int .i64 0] := rng; replace f_rr : Free wc (w.heap.size + 1) := fre
        clear hb
        replace ra_0 := range_cell ra 0 rfl; replace ra_1 := range_cell ra 1 rfl; replace ra_2 := range_cell ra 2 rfl; replace ra_3 := range_cell ra 3 rfl; replace ra_4 := range_cell ra 4 rfl; replace ra_5 := range_cell ra 5 rfl; replace ra_6 := range_cell ra 6 rfl; replace ra_7 := range_cell ra 7 rfl; replace ra_8 := range_cell ra 8 rfl; replace ra_9 := range_cell ra 9 rfl
        replace rr_0 := range_cell rr 0 rfl; replace rr_1 := range_cell rr 1 rfl; replace rr_2 := range_cell rr 2 rfl; replace rr_3 := range_cell rr 3 rfl
        replace rr_f0 := f_rr 0; replace rr_f1 := f_rr 1; replace rr_f2 := f_rr 2; replace rr_f3 := f_rr 3
        go_wp2_with fail
        refine (goJoin_any i 3 c p n k0 i0 k1 i1 s p hn hp _).mono ?_; rintro e wd ⟨rfl, hb⟩; have hz := hb.size; (try simp only [World.size_alloc, World.heap_drewN, World.size_drew, World.size_setCell] at hz)
        have HB4 := Lib.hid (show Below w.heap.size w wd from by have := HB3.out; exact bel)
        have z_ra : (w.heap.size) < wd.heap.size := (by omega); replace ra : wd.rangeAt (w.heap.size) 0 [.int .i64 i, .int .i64 3, .int .i64 c, .int .i64 p, .int .i64 n, .int .i64 k0, .int .i64 i0, .int .i64 k1, .int .i64 i1, .bool s] := rng
        have z_rr : (w.heap.size + 1) < wd.heap.size := (by omega); replace rr : wd.rangeAt (w.heap.size + 1) 0 [.int .i64 0, .int .i64 0, .int .i64 0, .int .i64 0] := rng; replace f_rr : Free wd (w.heap.size + 1) := fre
        clear hb
        replace ra_0 := range_cell ra 0 rfl; replace ra_1 := range_cell ra 1 rfl; replace ra_2 := range_cell ra 2 rfl; replace ra_3 := range_cell ra 3 rfl; replace ra_4 := range_cell ra 4 rfl; replace ra_5 := range_cell ra 5 rfl; replace ra_6 := range_cell ra 6 rfl; replace ra_7 := range_cell ra 7 rfl; replace ra_8 := range_cell ra 8 rfl; replace ra_9 := range_cell ra 9 rfl
        replace rr_0 := range_cell rr 0 rfl; replace rr_1 := range_cell rr 1 rfl; replace rr_2 := range_cell rr 2 rfl; replace rr_3 := range_cell rr 3 rfl
        replace rr_f0 := f_rr 0; replace rr_f1 := f_rr 1; replace rr_f2 := f_rr 2; replace rr_f3 := f_rr 3
        have := HB4.out
        go_wp2
        refine bodyPost_ret (ret_cell Try.results28 (w.heap.size + 1) [.int .i64 i, .int .i64 3, .int .i64 0, .int .i64 ((p + 1) % n)] _ rfl rng Try.underlying23 rfl (by kernel_rfl)) rfl ⟨rfl, ?_⟩; exact bel
    · rw [show Act.val (Act.active n i c p false true b3) = .agg #[.int .i64 i, .int .i64 2, .int .i64 0, .int .i64 0] from rfl]
      go_enter Try.func28, Try.ntmps28
      go_wp2_with fail
      refine (CR.out _).mono ?_; rintro e wa ⟨rfl, hb⟩; have hz := hb.size; (try simp only [World.size_alloc, World.heap_drewN, World.size_drew, World.size_setCell] at hz)
      have HB1 := Lib.hid (show Below w.heap.size w wa from bel)
      have z_ra : (w.heap.size) < wa.heap.size := (by omega); replace ra : wa.rangeAt (w.heap.size) 0 [.int .i64 i, .int .i64 3, .int .i64 c, .int .i64 p, .int .i64 n, .int .i64 k0, .int .i64 i0, .int .i64 k1, .int .i64 i1, .bool s] := rng
      have z_rr : (w.heap.size + 1) < wa.heap.size := (by omega); replace rr : wa.rangeAt (w.heap.size + 1) 0 [.int .i64 0, .int .i64 0, .int .i64 0, .int .i64 0] := rng; replace f_rr : Free wa (w.heap.size + 1) := fre
      clear hb
      replace ra_0 := range_cell ra 0 rfl; replace ra_1 := range_cell ra 1 rfl; replace ra_2 := range_cell ra 2 rfl; replace ra_3 := range_cell ra 3 rfl; replace ra_4 := range_cell ra 4 rfl; replace ra_5 := range_cell ra 5 rfl; replace ra_6 := range_cell ra 6 rfl; replace ra_7 := range_cell ra 7 rfl; replace ra_8 := range_cell ra 8 rfl; replace ra_9 := range_cell ra 9 rfl
      replace rr_0 := range_cell rr 0 rfl; replace rr_1 := range_cell rr 1 rfl; replace rr_2 := range_cell rr 2 rfl; replace rr_3 := range_cell rr 3 rfl
      replace rr_f0 := f_rr 0; replace rr_f1 := f_rr 1; replace rr_f2 := f_rr 2; replace rr_f3 := f_rr 3
      go_wp2_with fail
      refine (CO.out _).mono ?_; rintro e wb ⟨rfl, hb⟩; have hz := hb.size; (try simp only [World.size_alloc, World.heap_drewN, World.size_drew, World.size_setCell] at hz)
      have HB2 := Lib.hid (show Below w.heap.size w wb from by have := HB1.out; exact bel)
      have z_ra : (w.heap.size) < wb.heap.size := (by omega); replace ra : wb.rangeAt (w.heap.size) 0 [.int .i64 i, .int .i64 3, .int .i64 c, .int .i64 p, .int .i64 n, .int .i64 k0, .int .i64 i0, .int .i64 k1, .int .i64 i1, .bool s] := rng
      have z_rr : (w.heap.size + 1) < wb.heap.size := (by omega); replace rr : wb.rangeAt (w.heap.size + 1) 0 [.int .i64 0, .int .i64 0, .int .i64 0, .int .i64 0] := rng; replace f_rr : Free wb (w.heap.size + 1) := fre
      clear hb
      replace ra_0 := range_cell ra 0 rfl; replace ra_1 := range_cell ra 1 rfl; replace ra_2 := range_cell ra 2 rfl; replace ra_3 := range_cell ra 3 rfl; replace ra_4 := range_cell ra 4 rfl; replace ra_5 := range_cell ra 5 rfl; replace ra_6 := range_cell ra 6 rfl; replace ra_7 := range_cell ra 7 rfl; replace ra_8 := range_cell ra 8 rfl; replace ra_9 := range_cell ra 9 rfl
      replace rr_0 := range_cell rr 0 rfl; replace rr_1 := range_cell rr 1 rfl; replace rr_2 := range_cell rr 2 rfl; replace rr_3 := range_cell rr 3 rfl
      replace rr_f0 := f_rr 0; replace rr_f1 := f_rr 1; replace rr_f2 := f_rr 2; replace rr_f3 := f_rr 3
      go_wp2_with fail
      refine (goWait_any i 3 c p n k0 i0 k1 i1 s _).mono ?_; rintro e wc ⟨rfl, hb⟩; have hz := hb.size; (try simp only [World.size_alloc, World.heap_drewN, World.size_drew, World.size_setCell] at hz)
      have HB3 := Lib.hid (show Below w.heap.size w wc from by have := HB2.out; exact bel)
      have z_ra : (w.heap.size) < wc.heap.size := (by omega); replace ra : wc.rangeAt (w.heap.size) 0 [.int .i64 i, .int .i64 3, .int .i64 c, .int .i64 p, .int .i64 n, .int .i64 k0, .int .i64 i0, .int .i64 k1, .int .i64 i1, .bool s] := rng
      have z_rr : (w.heap.size + 1) < wc.heap.size := (by omega); replace rr : wc.rangeAt (w.heap.size + 1) 0 [.int .i64 0, .int .i64 0, .int .i64 0, .int .i64 0] := rng; replace f_rr : Free wc (w.heap.size + 1) := fre
      clear hb
      replace ra_0 := range_cell ra 0 rfl; replace ra_1 := range_cell ra 1 rfl; replace ra_2 := range_cell ra 2 rfl; replace ra_3 := range_cell ra 3 rfl; replace ra_4 := range_cell ra 4 rfl; replace ra_5 := range_cell ra 5 rfl; replace ra_6 := range_cell ra 6 rfl; replace ra_7 := range_cell ra 7 rfl; replace ra_8 := range_cell ra 8 rfl; replace ra_9 := range_cell ra 9 rfl
      replace rr_0 := range_cell rr 0 rfl; replace rr_1 := range_cell rr 1 rfl; replace rr_2 := range_cell rr 2 rfl; replace rr_3 := range_cell rr 3 rfl
      replace rr_f0 := f_rr 0; replace rr_f1 := f_rr 1; replace rr_f2 := f_rr 2; replace rr_f3 := f_rr 3
      have := HB3.out
      go_wp2
      refine bodyPost_ret (ret_cell Try.results28 (w.heap.size + 1) [.int .i64 i, .int .i64 2, .int .i64 0, .int .i64 0] _ rfl rng Try.underlying23 rfl (by kernel_rfl)) rfl ⟨rfl, ?_⟩; exact bel
  · rw [show Act.val (Act.active n i c p true b2 b3) = .agg #[.int .i64 i, .int .i64 1, .int .i64 0, .int .i64 0] from rfl]
    go_enter Try.func28, Try.ntmps28
    go_wp2_with fail
    refine (CR.out _).mono ?_; rintro e wa ⟨rfl, hb⟩; have hz := hb.size; (try simp only [World.size_alloc, World.heap_drewN, World.size_drew, World.size_setCell] at hz)
    have HB1 := Lib.hid (show Below w.heap.size w wa from bel)
    have z_ra : (w.heap.size) < wa.heap.size := (by omega); replace ra : wa.rangeAt (w.heap.size) 0 [.int .i64 i, .int .i64 3, .int .i64 c, .int .i64 p, .int .i64 n, .int .i64 k0, .int .i64 i0, .int .i64 k1, .int .i64 i1, .bool s] := rng
    have z_rr : (w.heap.size + 1) < wa.heap.size := (by omega); replace rr : wa.rangeAt (w.heap.size + 1) 0 [.int .i64 0, .int .i64 0, .int .i64 0, .int .i64 0] := rng; replace f_rr : Free wa (w.heap.size + 1) := fre
    clear hb
    replace ra_0 := range_cell ra 0 rfl; replace ra_1 := range_cell ra 1 rfl; replace ra_2 := range_cell ra 2 rfl; replace ra_3 := range_cell ra 3 rfl; replace ra_4 := range_cell ra 4 rfl; replace ra_5 := range_cell ra 5 rfl; replace ra_6 := range_cell ra 6 rfl; replace ra_7 := range_cell ra 7 rfl; replace ra_8 := range_cell ra 8 rfl; replace ra_9 := range_cell ra 9 rfl
    replace rr_0 := range_cell rr 0 rfl; replace rr_1 := range_cell rr 1 rfl; replace rr_2 := range_cell rr 2 rfl; replace rr_3 := range_cell rr 3 rfl
    replace rr_f0 := f_rr 0; replace rr_f1 := f_rr 1; replace rr_f2 := f_rr 2; replace rr_f3 := f_rr 3
    go_wp2_with fail
    refine (nwake_any i 3 c p _).mono ?_; rintro e wb ⟨rfl, hb⟩; have hz := hb.size; (try simp only [World.size_alloc, World.heap_drewN, World.size_drew, World.size_setCell] at hz)
    have HB2 := Lib.hid (show Below w.heap.size w wb from by have := HB1.out; exact bel)
    have z_ra : (w.heap.size) < wb.heap.size := (by omega); replace ra : wb.rangeAt (w.heap.size) 0 [.int .i64 i, .int .i64 3, .int .i64 c, .int .i64 p, .int .i64 n, .int .i64 k0, .int .i64 i0, .int .i64 k1, .int .i64 i1, .bool s] := rng
    have z_rr : (w.heap.size + 1) < wb.heap.size := (by omega); replace rr : wb.rangeAt (w.heap.size + 1) 0 [.int .i64 0, .int .i64 0, .int .i64 0, .int .i64 0] := rng; replace f_rr : Free wb (w.heap.size + 1) := fre
    clear hb
    replace ra_0 := range_cell ra 0 rfl; replace ra_1 := range_cell ra 1 rfl; replace ra_2 := range_cell ra 2 rfl; replace ra_3 := range_cell ra 3 rfl; replace ra_4 := range_cell ra 4 rfl; replace ra_5 := range_cell ra 5 rfl; replace ra_6 := range_cell ra 6 rfl; replace ra_7 := range_cell ra 7 rfl; replace ra_8 := range_cell ra 8 rfl; replace ra_9 := range_cell ra 9 rfl
    replace rr_0 := range_cell rr 0 rfl; replace rr_1 := range_cell rr 1 rfl; replace rr_2 := range_cell rr 2 rfl; replace rr_3 := range_cell rr 3 rfl
    replace rr_f0 := f_rr 0; replace rr_f1 := f_rr 1; replace rr_f2 := f_rr 2; replace rr_f3 := f_rr 3
    have := HB2.out
    go_wp2
    refine bodyPost_ret (ret_cell Try.results28 (w.heap.size + 1) [.int .i64 i, .int .i64 1, .int .i64 0, .int .i64 0] _ rfl rng Try.underlying23 rfl (by kernel_rfl)) rfl ⟨rfl, ?_⟩; exact bel
end Go.Proofs.Ytjkdmnodamcjnaa
