
import Derived.Test.YtjkdmnodamcjnaaRows
import Derived.Test.YtjkdmnodamcjnaaActA
import Derived.Test.YtjkdmnodamcjnaaSayB
import Derived.LoopTactic
import Derived.Deep.QuietTactic
import Derived.BigQuiet
import Derived.RegionTactic
import Derived.Deep.RegionWith
namespace Go.Proofs.Ytjkdmnodamcjnaa
set_option linter.unusedVariables false
set_option linter.unusedSimpArgs false
open Go.ChangeShapes Go.WideShapes Go.RowKit

theorem refTo_any (i m c p a b : Int) (w : World) :
    Calls Try.prog 20 #[.agg #[.int .i64 i, .int .i64 m, .int .i64 c, .int .i64 p], .int .i64 a, .int .i64 b] w fun e w' => e = .returned (.agg #[.int .i64 i, .int .i64 a, .int .i64 0, .int .i64 b]) ∧ Below w.heap.size w w' := by
  go_enter Try.func20, Try.ntmps20
  go_wp2
  refine bodyPost_ret (ret_cell Try.results20 (w.heap.size + 1) [.int .i64 i, .int .i64 a, .int .i64 0, .int .i64 b] _ rfl rng Try.underlying23 rfl (by kernel_rfl)) rfl ⟨rfl, ?_⟩; exact bel
theorem refAup_any (i m c p : Int) (hc : 0 ≤ c ∧ c ≤ 1073741824) (w : World) :
    Calls Try.prog 22 #[.agg #[.int .i64 i, .int .i64 m, .int .i64 c, .int .i64 p]] w fun e w' => e = .returned (.agg #[.int .i64 i, .int .i64 m, .int .i64 (Act.up c), .int .i64 p]) ∧ Below w.heap.size w w' := by
  go_enter Try.func22, Try.ntmps22
  go_wp2_with fail
  refine (refUp_any _ _ (by omega) (by omega) _).mono ?_; rintro e w' ⟨rfl, rfl⟩
  rw [show Tally.up c 1073741824 = Act.up c from rfl]
  go_wp2
  refine bodyPost_ret (ret_cell Try.results22 (w.heap.size + 1) [.int .i64 i, .int .i64 m, .int .i64 (Act.up c), .int .i64 p] _ rfl rng Try.underlying23 rfl (by kernel_rfl)) rfl ⟨rfl, ?_⟩; exact bel

set_option maxHeartbeats 1000000 in
theorem refActive_any (n i c p k0 i0 k1 i1 : Int) (hn : 3 ≤ n ∧ n ≤ 8) (hc : 0 ≤ c ∧ c ≤ 1073741824) (hp : 0 ≤ p ∧ p < n) (w : World) :
    Calls Try.prog 16 #[.int .i64 n, .agg #[.int .i64 i, .int .i64 3, .int .i64 c, .int .i64 p], .agg #[.int .i64 k0, .int .i64 i0, .int .i64 k1, .int .i64 i1]] w fun e w' => e = .returned (Act.val (Act.active n i c p (Hear.isWrong p k0 i0 || Hear.isWrong p k1 i1) (Hear.isOther i k0 i0 || Hear.isOther i k1 i1) (Hear.isMatch p k0 i0 || Hear.isMatch p k1 i1))) ∧ Below w.heap.size w w' := by
  have CR := Lib.hid (fun w => refWrong_any k0 i0 k1 i1 p w)
  have CO := Lib.hid (fun w => refOther_any k0 i0 k1 i1 i w)
  have CM := Lib.hid (fun w => refMatch_any k0 i0 k1 i1 p w)
  have CW := Lib.hid (fun w => (refCWatch_any n w).mono fun e w' (h : _ ∧ w = w') => show e = .returned (.int .i64 (Conf.tm n 8)) ∧ Below w.heap.size w w' from ⟨h.1, by rw [← h.2]; exact Below.refl _ _⟩)
  rw [Conf.tm_yes (Conf.right_spec.2 hn)] at CW
  generalize (Hear.isWrong p k0 i0 || Hear.isWrong p k1 i1) = b1 at *
  generalize (Hear.isOther i k0 i0 || Hear.isOther i k1 i1) = b2 at *
  generalize Hear.firstI (Hear.isOther i k0 i0) (Hear.isOther i k1 i1) i0 i1 = d2 at *
  generalize (Hear.isMatch p k0 i0 || Hear.isMatch p k1 i1) = b3 at *
  cases b1
  · cases b2
    · have hu := Act.up_bounds c
      have CU := Lib.hid (fun w => refAup_any i 3 c p hc w)
      cases b3
      · by_cases hw : 8 * n ≤ Act.up c
        · rw [show Act.val (Act.active n i c p false false false) = .agg #[.int .i64 i, .int .i64 1, .int .i64 0, .int .i64 0] by
            unfold Act.active; simp [hw, Act.val]]
          generalize Act.up c = u at *
          have hd : decide (8 * n ≤ u) = true := decide_eq_true hw
          go_enter Try.func16, Try.ntmps16
          go_wp2_with fail
          refine (CO.out _).mono ?_; rintro e wa ⟨rfl, hb⟩; have hz := hb.size; (try simp only [World.size_alloc, World.heap_drewN, World.size_drew, World.size_setCell] at hz)
          have HB1 := Lib.hid (show Below w.heap.size w wa from bel)
          have z_rx : (w.heap.size) < wa.heap.size := (by omega); replace rx : wa.rangeAt (w.heap.size) 0 [.int .i64 i, .int .i64 3, .int .i64 c, .int .i64 p] := rng; replace f_rx : Free wa (w.heap.size) := fre
          have z_rh : (w.heap.size + 1) < wa.heap.size := (by omega); replace rh : wa.rangeAt (w.heap.size + 1) 0 [.int .i64 k0, .int .i64 i0, .int .i64 k1, .int .i64 i1] := rng
          have z_rr : (w.heap.size + 1 + 1) < wa.heap.size := (by omega); replace rr : wa.rangeAt (w.heap.size + 1 + 1) 0 [.int .i64 0, .int .i64 0, .int .i64 0, .int .i64 0] := rng; replace f_rr : Free wa (w.heap.size + 1 + 1) := fre
          clear hb
          replace rx_0 := range_cell rx 0 rfl; replace rx_1 := range_cell rx 1 rfl; replace rx_2 := range_cell rx 2 rfl; replace rx_3 := range_cell rx 3 rfl
          replace rx_f0 := f_rx 0; replace rx_f1 := f_rx 1; replace rx_f2 := f_rx 2; replace rx_f3 := f_rx 3
          replace rh_0 := range_cell rh 0 rfl; replace rh_1 := range_cell rh 1 rfl; replace rh_2 := range_cell rh 2 rfl; replace rh_3 := range_cell rh 3 rfl
          replace rr_0 := range_cell rr 0 rfl; replace rr_1 := range_cell rr 1 rfl; replace rr_2 := range_cell rr 2 rfl; replace rr_3 := range_cell rr 3 rfl
          replace rr_f0 := f_rr 0; replace rr_f1 := f_rr 1; replace rr_f2 := f_rr 2; replace rr_f3 := f_rr 3
          go_wp2_with fail
          refine (CR.out _).mono ?_; rintro e wb ⟨rfl, hb⟩; have hz := hb.size; (try simp only [World.size_alloc, World.heap_drewN, World.size_drew, World.size_setCell] at hz)
          have HB2 := Lib.hid (show Below w.heap.size w wb from by have := HB1.out; exact bel)
          have z_rx : (w.heap.size) < wb.heap.size := (by omega); replace rx : wb.rangeAt (w.heap.size) 0 [.int .i64 i, .int .i64 3, .int .i64 c, .int .i64 p] := rng; replace f_rx : Free wb (w.heap.size) := fre
          have z_rh : (w.heap.size + 1) < wb.heap.size := (by omega); replace rh : wb.rangeAt (w.heap.size + 1) 0 [.int .i64 k0, .int .i64 i0, .int .i64 k1, .int .i64 i1] := rng
          have z_rr : (w.heap.size + 1 + 1) < wb.heap.size := (by omega); replace rr : wb.rangeAt (w.heap.size + 1 + 1) 0 [.int .i64 0, .int .i64 0, .int .i64 0, .int .i64 0] := rng; replace f_rr : Free wb (w.heap.size + 1 + 1) := fre
          clear hb
          replace rx_0 := range_cell rx 0 rfl; replace rx_1 := range_cell rx 1 rfl; replace rx_2 := range_cell rx 2 rfl; replace rx_3 := range_cell rx 3 rfl
          replace rx_f0 := f_rx 0; replace rx_f1 := f_rx 1; replace rx_f2 := f_rx 2; replace rx_f3 := f_rx 3
          replace rh_0 := range_cell rh 0 rfl; replace rh_1 := range_cell rh 1 rfl; replace rh_2 := range_cell rh 2 rfl; replace rh_3 := range_cell rh 3 rfl
          replace rr_0 := range_cell rr 0 rfl; replace rr_1 := range_cell rr 1 rfl; replace rr_2 := range_cell rr 2 rfl; replace rr_3 := range_cell rr 3 rfl
          replace rr_f0 := f_rr 0; replace rr_f1 := f_rr 1; replace rr_f2 := f_rr 2; replace rr_f3 := f_rr 3
          go_wp2_with fail
          refine (CU.out _).mono ?_; rintro e wc ⟨rfl, hb⟩; have hz := hb.size; (try simp only [World.size_alloc, World.heap_drewN, World.size_drew, World.size_setCell] at hz)
          have HB3 := Lib.hid (show Below w.heap.size w wc from by have := HB2.out; exact bel)
          have z_rx : (w.heap.size) < wc.heap.size := (by omega); replace rx : wc.rangeAt (w.heap.size) 0 [.int .i64 i, .int .i64 3, .int .i64 c, .int .i64 p] := rng; replace f_rx : Free wc (w.heap.size) := fre
          have z_rh : (w.heap.size + 1) < wc.heap.size := (by omega); replace rh : wc.rangeAt (w.heap.size + 1) 0 [.int .i64 k0, .int .i64 i0, .int .i64 k1, .int .i64 i1] := rng
          have z_rr : (w.heap.size + 1 + 1) < wc.heap.size := (by omega); replace rr : wc.rangeAt (w.heap.size + 1 + 1) 0 [.int .i64 0, .int .i64 0, .int .i64 0, .int .i64 0] := rng; replace f_rr : Free wc (w.heap.size + 1 + 1) := fre
          clear hb
          replace rx_0 := range_cell rx 0 rfl; replace rx_1 := range_cell rx 1 rfl; replace rx_2 := range_cell rx 2 rfl; replace rx_3 := range_cell rx 3 rfl
          replace rx_f0 := f_rx 0; replace rx_f1 := f_rx 1; replace rx_f2 := f_rx 2; replace rx_f3 := f_rx 3
          replace rh_0 := range_cell rh 0 rfl; replace rh_1 := range_cell rh 1 rfl; replace rh_2 := range_cell rh 2 rfl; replace rh_3 := range_cell rh 3 rfl
          replace rr_0 := range_cell rr 0 rfl; replace rr_1 := range_cell rr 1 rfl; replace rr_2 := range_cell rr 2 rfl; replace rr_3 := range_cell rr 3 rfl
          replace rr_f0 := f_rr 0; replace rr_f1 := f_rr 1; replace rr_f2 := f_rr 2; replace rr_f3 := f_rr 3
          go_wp2_with fail
          refine (CM.out _).mono ?_; rintro e wd ⟨rfl, hb⟩; have hz := hb.size; (try simp only [World.size_alloc, World.heap_drewN, World.size_drew, World.size_setCell] at hz)
          have HB4 := Lib.hid (show Below w.heap.size w wd from by have := HB3.out; exact bel)
          have z_rx : (w.heap.size) < wd.heap.size := (by omega); replace rx : wd.rangeAt (w.heap.size) 0 [.int .i64 i, .int .i64 3, .int .i64 u, .int .i64 p] := rng; replace f_rx : Free wd (w.heap.size) := fre
          have z_rh : (w.heap.size + 1) < wd.heap.size := (by omega); replace rh : wd.rangeAt (w.heap.size + 1) 0 [.int .i64 k0, .int .i64 i0, .int .i64 k1, .int .i64 i1] := rng
          have z_rr : (w.heap.size + 1 + 1) < wd.heap.size := (by omega); replace rr : wd.rangeAt (w.heap.size + 1 + 1) 0 [.int .i64 0, .int .i64 0, .int .i64 0, .int .i64 0] := rng; replace f_rr : Free wd (w.heap.size + 1 + 1) := fre
          clear hb
          replace rx_0 := range_cell rx 0 rfl; replace rx_1 := range_cell rx 1 rfl; replace rx_2 := range_cell rx 2 rfl; replace rx_3 := range_cell rx 3 rfl
          replace rx_f0 := f_rx 0; replace rx_f1 := f_rx 1; replace rx_f2 := f_rx 2; replace rx_f3 := f_rx 3
          replace rh_0 := range_cell rh 0 rfl; replace rh_1 := range_cell rh 1 rfl; replace rh_2 := range_cell rh 2 rfl; replace rh_3 := range_cell rh 3 rfl
          replace rr_0 := range_cell rr 0 rfl; replace rr_1 := range_cell rr 1 rfl; replace rr_2 := range_cell rr 2 rfl; replace rr_3 := range_cell rr 3 rfl
          replace rr_f0 := f_rr 0; replace rr_f1 := f_rr 1; replace rr_f2 := f_rr 2; replace rr_f3 := f_rr 3
          go_wp2_with fail
          refine region_below (by kernel_rfl) (by kernel_rfl) ?_; intro wR HW
          have HBR := Lib.hid (show Below w.heap.size w wR from by have := HB4.out; rw [← HW.out]; exact bel)
          have sx : wR.rangeAt w.heap.size 0 [.int .i64 i, .int .i64 3, .int .i64 u, .int .i64 p] := by rw [← HW.out]; exact rng
          have fx : Free wR w.heap.size := by rw [← HW.out]; exact fre
          have sr : wR.rangeAt (w.heap.size + 1 + 1) 0 [.int .i64 0, .int .i64 0, .int .i64 0, .int .i64 0] := by rw [← HW.out]; exact rng
          have fr : Free wR (w.heap.size + 1 + 1) := by rw [← HW.out]; exact fre
          have zR : w.heap.size + 1 + 1 < wR.heap.size := by rw [← HW.out]; (try simp); omega
          clear rx rh rr f_rx f_rr rx_0 rx_1 rx_2 rx_3 rx_f0 rx_f1 rx_f2 rx_f3 rh_0 rh_1 rh_2 rh_3 rr_0 rr_1 rr_2 rr_3 rr_f0 rr_f1 rr_f2 rr_f3
          replace sx_0 := cell_regrown (range_cell sx 0 rfl); replace sx_1 := cell_regrown (range_cell sx 1 rfl); replace sx_2 := cell_regrown (range_cell sx 2 rfl); replace sx_3 := cell_regrown (range_cell sx 3 rfl)
          (repeat (quiet_step (first | with_reducible exact Calls.regrown_of (CW.out _)))); refine wpQuiet_nil ?_; intro w2 hb2
          have HB5 := Lib.hid (show Below w.heap.size w w2 from HBR.out.trans (hb2.mono HBR.out.size))
          have zs := hb2.size
          have z_tx : (w.heap.size) < w2.heap.size := (by omega); replace tx : w2.rangeAt (w.heap.size) 0 [.int .i64 i, .int .i64 3, .int .i64 u, .int .i64 p] := rng; replace f_tx : Free w2 (w.heap.size) := fre
          have z_tr : (w.heap.size + 1 + 1) < w2.heap.size := (by omega); replace tr : w2.rangeAt (w.heap.size + 1 + 1) 0 [.int .i64 0, .int .i64 0, .int .i64 0, .int .i64 0] := rng; replace f_tr : Free w2 (w.heap.size + 1 + 1) := fre
          clear hb2 sx_0 sx_1 sx_2 sx_3
          replace tx_0 := range_cell tx 0 rfl; replace tx_1 := range_cell tx 1 rfl; replace tx_2 := range_cell tx 2 rfl; replace tx_3 := range_cell tx 3 rfl
          replace tx_f0 := f_tx 0; replace tx_f1 := f_tx 1; replace tx_f2 := f_tx 2; replace tx_f3 := f_tx 3
          replace tr_0 := range_cell tr 0 rfl; replace tr_1 := range_cell tr 1 rfl; replace tr_2 := range_cell tr 2 rfl; replace tr_3 := range_cell tr 3 rfl
          replace tr_f0 := f_tr 0; replace tr_f1 := f_tr 1; replace tr_f2 := f_tr 2; replace tr_f3 := f_tr 3
          go_wp2_with fail
          refine (refTo_any _ _ _ _ _ _ _).mono ?_; rintro e wf ⟨rfl, hb⟩; have hz := hb.size; (try simp only [World.size_alloc, World.heap_drewN, World.size_drew, World.size_setCell] at hz)
          have HB6 := Lib.hid (show Below w.heap.size w wf from by have := HB5.out; exact bel)
          have z_tr : (w.heap.size + 1 + 1) < wf.heap.size := (by omega); replace tr : wf.rangeAt (w.heap.size + 1 + 1) 0 [.int .i64 0, .int .i64 0, .int .i64 0, .int .i64 0] := rng; replace f_tr : Free wf (w.heap.size + 1 + 1) := fre
          clear hb
          replace tr_0 := range_cell tr 0 rfl; replace tr_1 := range_cell tr 1 rfl; replace tr_2 := range_cell tr 2 rfl; replace tr_3 := range_cell tr 3 rfl
          replace tr_f0 := f_tr 0; replace tr_f1 := f_tr 1; replace tr_f2 := f_tr 2; replace tr_f3 := f_tr 3
          have := HB6.out
          go_wp2
          refine bodyPost_ret (ret_cell Try.results16 (w.heap.size + 1 + 1) [.int .i64 i, .int .i64 1, .int .i64 0, .int .i64 0] _ rfl rng Try.underlying23 rfl (by kernel_rfl)) rfl ⟨rfl, ?_⟩; exact bel
        · rw [show Act.val (Act.active n i c p false false false) = .agg #[.int .i64 i, .int .i64 3, .int .i64 (Act.up c), .int .i64 ((p + 1) % n)] by
            unfold Act.active; simp [hw, Act.val]]
          generalize Act.up c = u at *
          have hd : decide (8 * n ≤ u) = false := decide_eq_false hw
          go_enter Try.func16, Try.ntmps16
          go_wp2_with fail
          refine (CO.out _).mono ?_; rintro e wa ⟨rfl, hb⟩; have hz := hb.size; (try simp only [World.size_alloc, World.heap_drewN, World.size_drew, World.size_setCell] at hz)
          have HB1 := Lib.hid (show Below w.heap.size w wa from bel)
          have z_rx : (w.heap.size) < wa.heap.size := (by omega); replace rx : wa.rangeAt (w.heap.size) 0 [.int .i64 i, .int .i64 3, .int .i64 c, .int .i64 p] := rng; replace f_rx : Free wa (w.heap.size) := fre
          have z_rh : (w.heap.size + 1) < wa.heap.size := (by omega); replace rh : wa.rangeAt (w.heap.size + 1) 0 [.int .i64 k0, .int .i64 i0, .int .i64 k1, .int .i64 i1] := rng
          have z_rr : (w.heap.size + 1 + 1) < wa.heap.size := (by omega); replace rr : wa.rangeAt (w.heap.size + 1 + 1) 0 [.int .i64 0, .int .i64 0, .int .i64 0, .int .i64 0] := rng; replace f_rr : Free wa (w.heap.size + 1 + 1) := fre
          clear hb
          replace rx_0 := range_cell rx 0 rfl; replace rx_1 := range_cell rx 1 rfl; replace rx_2 := range_cell rx 2 rfl; replace rx_3 := range_cell rx 3 rfl
          replace rx_f0 := f_rx 0; replace rx_f1 := f_rx 1; replace rx_f2 := f_rx 2; replace rx_f3 := f_rx 3
          replace rh_0 := range_cell rh 0 rfl; replace rh_1 := range_cell rh 1 rfl; replace rh_2 := range_cell rh 2 rfl; replace rh_3 := range_cell rh 3 rfl
          replace rr_0 := range_cell rr 0 rfl; replace rr_1 := range_cell rr 1 rfl; replace rr_2 := range_cell rr 2 rfl; replace rr_3 := range_cell rr 3 rfl
          replace rr_f0 := f_rr 0; replace rr_f1 := f_rr 1; replace rr_f2 := f_rr 2; replace rr_f3 := f_rr 3
          go_wp2_with fail
          refine (CR.out _).mono ?_; rintro e wb ⟨rfl, hb⟩; have hz := hb.size; (try simp only [World.size_alloc, World.heap_drewN, World.size_drew, World.size_setCell] at hz)
          have HB2 := Lib.hid (show Below w.heap.size w wb from by have := HB1.out; exact bel)
          have z_rx : (w.heap.size) < wb.heap.size := (by omega); replace rx : wb.rangeAt (w.heap.size) 0 [.int .i64 i, .int .i64 3, .int .i64 c, .int .i64 p] := rng; replace f_rx : Free wb (w.heap.size) := fre
          have z_rh : (w.heap.size + 1) < wb.heap.size := (by omega); replace rh : wb.rangeAt (w.heap.size + 1) 0 [.int .i64 k0, .int .i64 i0, .int .i64 k1, .int .i64 i1] := rng
          have z_rr : (w.heap.size + 1 + 1) < wb.heap.size := (by omega); replace rr : wb.rangeAt (w.heap.size + 1 + 1) 0 [.int .i64 0, .int .i64 0, .int .i64 0, .int .i64 0] := rng; replace f_rr : Free wb (w.heap.size + 1 + 1) := fre
          clear hb
          replace rx_0 := range_cell rx 0 rfl; replace rx_1 := range_cell rx 1 rfl; replace rx_2 := range_cell rx 2 rfl; replace rx_3 := range_cell rx 3 rfl
          replace rx_f0 := f_rx 0; replace rx_f1 := f_rx 1; replace rx_f2 := f_rx 2; replace rx_f3 := f_rx 3
          replace rh_0 := range_cell rh 0 rfl; replace rh_1 := range_cell rh 1 rfl; replace rh_2 := range_cell rh 2 rfl; replace rh_3 := range_cell rh 3 rfl
          replace rr_0 := range_cell rr 0 rfl; replace rr_1 := range_cell rr 1 rfl; replace rr_2 := range_cell rr 2 rfl; replace rr_3 := range_cell rr 3 rfl
          replace rr_f0 := f_rr 0; replace rr_f1 := f_rr 1; replace rr_f2 := f_rr 2; replace rr_f3 := f_rr 3
          go_wp2_with fail
          refine (CU.out _).mono ?_; rintro e wc ⟨rfl, hb⟩; have hz := hb.size; (try simp only [World.size_alloc, World.heap_drewN, World.size_drew, World.size_setCell] at hz)
          have HB3 := Lib.hid (show Below w.heap.size w wc from by have := HB2.out; exact bel)
          have z_rx : (w.heap.size) < wc.heap.size := (by omega); replace rx : wc.rangeAt (w.heap.size) 0 [.int .i64 i, .int .i64 3, .int .i64 c, .int .i64 p] := rng; replace f_rx : Free wc (w.heap.size) := fre
          have z_rh : (w.heap.size + 1) < wc.heap.size := (by omega); replace rh : wc.rangeAt (w.heap.size + 1) 0 [.int .i64 k0, .int .i64 i0, .int .i64 k1, .int .i64 i1] := rng
          have z_rr : (w.heap.size + 1 + 1) < wc.heap.size := (by omega); replace rr : wc.rangeAt (w.heap.size + 1 + 1) 0 [.int .i64 0, .int .i64 0, .int .i64 0, .int .i64 0] := rng; replace f_rr : Free wc (w.heap.size + 1 + 1) := fre
          clear hb
          replace rx_0 := range_cell rx 0 rfl; replace rx_1 := range_cell rx 1 rfl; replace rx_2 := range_cell rx 2 rfl; replace rx_3 := range_cell rx 3 rfl
          replace rx_f0 := f_rx 0; replace rx_f1 := f_rx 1; replace rx_f2 := f_rx 2; replace rx_f3 := f_rx 3
          replace rh_0 := range_cell rh 0 rfl; replace rh_1 := range_cell rh 1 rfl; replace rh_2 := range_cell rh 2 rfl; replace rh_3 := range_cell rh 3 rfl
          replace rr_0 := range_cell rr 0 rfl; replace rr_1 := range_cell rr 1 rfl; replace rr_2 := range_cell rr 2 rfl; replace rr_3 := range_cell rr 3 rfl
          replace rr_f0 := f_rr 0; replace rr_f1 := f_rr 1; replace rr_f2 := f_rr 2; replace rr_f3 := f_rr 3
          go_wp2_with fail
          refine (CM.out _).mono ?_; rintro e wd ⟨rfl, hb⟩; have hz := hb.size; (try simp only [World.size_alloc, World.heap_drewN, World.size_drew, World.size_setCell] at hz)
          have HB4 := Lib.hid (show Below w.heap.size w wd from by have := HB3.out; exact bel)
          have z_rx : (w.heap.size) < wd.heap.size := (by omega); replace rx : wd.rangeAt (w.heap.size) 0 [.int .i64 i, .int .i64 3, .int .i64 u, .int .i64 p] := rng; replace f_rx : Free wd (w.heap.size) := fre
          have z_rh : (w.heap.size + 1) < wd.heap.size := (by omega); replace rh : wd.rangeAt (w.heap.size + 1) 0 [.int .i64 k0, .int .i64 i0, .int .i64 k1, .int .i64 i1] := rng
          have z_rr : (w.heap.size + 1 + 1) < wd.heap.size := (by omega); replace rr : wd.rangeAt (w.heap.size + 1 + 1) 0 [.int .i64 0, .int .i64 0, .int .i64 0, .int .i64 0] := rng; replace f_rr : Free wd (w.heap.size + 1 + 1) := fre
          clear hb
          replace rx_0 := range_cell rx 0 rfl; replace rx_1 := range_cell rx 1 rfl; replace rx_2 := range_cell rx 2 rfl; replace rx_3 := range_cell rx 3 rfl
          replace rx_f0 := f_rx 0; replace rx_f1 := f_rx 1; replace rx_f2 := f_rx 2; replace rx_f3 := f_rx 3
          replace rh_0 := range_cell rh 0 rfl; replace rh_1 := range_cell rh 1 rfl; replace rh_2 := range_cell rh 2 rfl; replace rh_3 := range_cell rh 3 rfl
          replace rr_0 := range_cell rr 0 rfl; replace rr_1 := range_cell rr 1 rfl; replace rr_2 := range_cell rr 2 rfl; replace rr_3 := range_cell rr 3 rfl
          replace rr_f0 := f_rr 0; replace rr_f1 := f_rr 1; replace rr_f2 := f_rr 2; replace rr_f3 := f_rr 3
          go_wp2_with fail
          refine region_below (by kernel_rfl) (by kernel_rfl) ?_; intro wR HW
          have HBR := Lib.hid (show Below w.heap.size w wR from by have := HB4.out; rw [← HW.out]; exact bel)
          have sx : wR.rangeAt w.heap.size 0 [.int .i64 i, .int .i64 3, .int .i64 u, .int .i64 p] := by rw [← HW.out]; exact rng
          have fx : Free wR w.heap.size := by rw [← HW.out]; exact fre
          have sr : wR.rangeAt (w.heap.size + 1 + 1) 0 [.int .i64 0, .int .i64 0, .int .i64 0, .int .i64 0] := by rw [← HW.out]; exact rng
          have fr : Free wR (w.heap.size + 1 + 1) := by rw [← HW.out]; exact fre
          have zR : w.heap.size + 1 + 1 < wR.heap.size := by rw [← HW.out]; (try simp); omega
          clear rx rh rr f_rx f_rr rx_0 rx_1 rx_2 rx_3 rx_f0 rx_f1 rx_f2 rx_f3 rh_0 rh_1 rh_2 rh_3 rr_0 rr_1 rr_2 rr_3 rr_f0 rr_f1 rr_f2 rr_f3
          replace sx_0 := cell_regrown (range_cell sx 0 rfl); replace sx_1 := cell_regrown (range_cell sx 1 rfl); replace sx_2 := cell_regrown (range_cell sx 2 rfl); replace sx_3 := cell_regrown (range_cell sx 3 rfl)
          (repeat (quiet_step (first | with_reducible exact Calls.regrown_of (CW.out _)))); refine wpQuiet_nil ?_; intro w2 hb2
          have HB5 := Lib.hid (show Below w.heap.size w w2 from HBR.out.trans (hb2.mono HBR.out.size))
          have zs := hb2.size
          have z_tx : (w.heap.size) < w2.heap.size := (by omega); replace tx : w2.rangeAt (w.heap.size) 0 [.int .i64 i, .int .i64 3, .int .i64 u, .int .i64 p] := rng; replace f_tx : Free w2 (w.heap.size) := fre
          have z_tr : (w.heap.size + 1 + 1) < w2.heap.size := (by omega); replace tr : w2.rangeAt (w.heap.size + 1 + 1) 0 [.int .i64 0, .int .i64 0, .int .i64 0, .int .i64 0] := rng; replace f_tr : Free w2 (w.heap.size + 1 + 1) := fre
          clear hb2 sx_0 sx_1 sx_2 sx_3
          replace tx_0 := range_cell tx 0 rfl; replace tx_1 := range_cell tx 1 rfl; replace tx_2 := range_cell tx 2 rfl; replace tx_3 := range_cell tx 3 rfl
          replace tx_f0 := f_tx 0; replace tx_f1 := f_tx 1; replace tx_f2 := f_tx 2; replace tx_f3 := f_tx 3
          replace tr_0 := range_cell tr 0 rfl; replace tr_1 := range_cell tr 1 rfl; replace tr_2 := range_cell tr 2 rfl; replace tr_3 := range_cell tr 3 rfl
          replace tr_f0 := f_tr 0; replace tr_f1 := f_tr 1; replace tr_f2 := f_tr 2; replace tr_f3 := f_tr 3
          go_wp2_with fail
          refine (refNext_any n p (by omega) (by omega) hp.1 hp.2 _).mono ?_; rintro e w' ⟨rfl, rfl⟩
          have := HB5.out
          go_wp2
          refine bodyPost_ret (ret_cell Try.results16 (w.heap.size + 1 + 1) [.int .i64 i, .int .i64 3, .int .i64 u, .int .i64 ((p + 1) % n)] _ rfl rng Try.underlying23 rfl (by kernel_rfl)) rfl ⟨rfl, ?_⟩; exact bel
      · rw [show Act.val (Act.active n i c p false false true) = .agg #[.int .i64 i, .int .i64 3, .int .i64 0, .int .i64 ((p + 1) % n)] from rfl]
        generalize Act.up c = u at *
        have hd : decide (8 * n ≤ 0) = false := decide_eq_false (by omega)
        go_enter Try.func16, Try.ntmps16
        go_wp2_with fail
        refine (CO.out _).mono ?_; rintro e wa ⟨rfl, hb⟩; have hz := hb.size; (try simp only [World.size_alloc, World.heap_drewN, World.size_drew, World.size_setCell] at hz)
        have HB1 := Lib.hid (show Below w.heap.size w wa from bel)
        have z_rx : (w.heap.size) < wa.heap.size := (by omega); replace rx : wa.rangeAt (w.heap.size) 0 [.int .i64 i, .int .i64 3, .int .i64 c, .int .i64 p] := rng; replace f_rx : Free wa (w.heap.size) := fre
        have z_rh : (w.heap.size + 1) < wa.heap.size := (by omega); replace rh : wa.rangeAt (w.heap.size + 1) 0 [.int .i64 k0, .int .i64 i0, .int .i64 k1, .int .i64 i1] := rng
        have z_rr : (w.heap.size + 1 + 1) < wa.heap.size := (by omega); replace rr : wa.rangeAt (w.heap.size + 1 + 1) 0 [.int .i64 0, .int .i64 0, .int .i64 0, .int .i64 0] := rng; replace f_rr : Free wa (w.heap.size + 1 + 1) := fre
        clear hb
        replace rx_0 := range_cell rx 0 rfl; replace rx_1 := range_cell rx 1 rfl; replace rx_2 := range_cell rx 2 rfl; replace rx_3 := range_cell rx 3 rfl
        replace rx_f0 := f_rx 0; replace rx_f1 := f_rx 1; replace rx_f2 := f_rx 2; replace rx_f3 := f_rx 3
        replace rh_0 := range_cell rh 0 rfl; replace rh_1 := range_cell rh 1 rfl; replace rh_2 := range_cell rh 2 rfl; replace rh_3 := range_cell rh 3 rfl
        replace rr_0 := range_cell rr 0 rfl; replace rr_1 := range_cell rr 1 rfl; replace rr_2 := range_cell rr 2 rfl; replace rr_3 := range_cell rr 3 rfl
        replace rr_f0 := f_rr 0; replace rr_f1 := f_rr 1; replace rr_f2 := f_rr 2; replace rr_f3 := f_rr 3
        go_wp2_with fail
        refine (CR.out _).mono ?_; rintro e wb ⟨rfl, hb⟩; have hz := hb.size; (try simp only [World.size_alloc, World.heap_drewN, World.size_drew, World.size_setCell] at hz)
        have HB2 := Lib.hid (show Below w.heap.size w wb from by have := HB1.out; exact bel)
        have z_rx : (w.heap.size) < wb.heap.size := (by omega); replace rx : wb.rangeAt (w.heap.size) 0 [.int .i64 i, .int .i64 3, .int .i64 c, .int .i64 p] := rng; replace f_rx : Free wb (w.heap.size) := fre
        have z_rh : (w.heap.size + 1) < wb.heap.size := (by omega); replace rh : wb.rangeAt (w.heap.size + 1) 0 [.int .i64 k0, .int .i64 i0, .int .i64 k1, .int .i64 i1] := rng
        have z_rr : (w.heap.size + 1 + 1) < wb.heap.size := (by omega); replace rr : wb.rangeAt (w.heap.size + 1 + 1) 0 [.int .i64 0, .int .i64 0, .int .i64 0, .int .i64 0] := rng; replace f_rr : Free wb (w.heap.size + 1 + 1) := fre
        clear hb
        replace rx_0 := range_cell rx 0 rfl; replace rx_1 := range_cell rx 1 rfl; replace rx_2 := range_cell rx 2 rfl; replace rx_3 := range_cell rx 3 rfl
        replace rx_f0 := f_rx 0; replace rx_f1 := f_rx 1; replace rx_f2 := f_rx 2; replace rx_f3 := f_rx 3
        replace rh_0 := range_cell rh 0 rfl; replace rh_1 := range_cell rh 1 rfl; replace rh_2 := range_cell rh 2 rfl; replace rh_3 := range_cell rh 3 rfl
        replace rr_0 := range_cell rr 0 rfl; replace rr_1 := range_cell rr 1 rfl; replace rr_2 := range_cell rr 2 rfl; replace rr_3 := range_cell rr 3 rfl
        replace rr_f0 := f_rr 0; replace rr_f1 := f_rr 1; replace rr_f2 := f_rr 2; replace rr_f3 := f_rr 3
        go_wp2_with fail
        refine (CU.out _).mono ?_; rintro e wc ⟨rfl, hb⟩; have hz := hb.size; (try simp only [World.size_alloc, World.heap_drewN, World.size_drew, World.size_setCell] at hz)
        have HB3 := Lib.hid (show Below w.heap.size w wc from by have := HB2.out; exact bel)
        have z_rx : (w.heap.size) < wc.heap.size := (by omega); replace rx : wc.rangeAt (w.heap.size) 0 [.int .i64 i, .int .i64 3, .int .i64 c, .int .i64 p] := rng; replace f_rx : Free wc (w.heap.size) := fre
        have z_rh : (w.heap.size + 1) < wc.heap.size := (by omega); replace rh : wc.rangeAt (w.heap.size + 1) 0 [.int .i64 k0, .int .i64 i0, .int .i64 k1, .int .i64 i1] := rng
        have z_rr : (w.heap.size + 1 + 1) < wc.heap.size := (by omega); replace rr : wc.rangeAt (w.heap.size + 1 + 1) 0 [.int .i64 0, .int .i64 0, .int .i64 0, .int .i64 0] := rng; replace f_rr : Free wc (w.heap.size + 1 + 1) := fre
        clear hb
        replace rx_0 := range_cell rx 0 rfl; replace rx_1 := range_cell rx 1 rfl; replace rx_2 := range_cell rx 2 rfl; replace rx_3 := range_cell rx 3 rfl
        replace rx_f0 := f_rx 0; replace rx_f1 := f_rx 1; replace rx_f2 := f_rx 2; replace rx_f3 := f_rx 3
        replace rh_0 := range_cell rh 0 rfl; replace rh_1 := range_cell rh 1 rfl; replace rh_2 := range_cell rh 2 rfl; replace rh_3 := range_cell rh 3 rfl
        replace rr_0 := range_cell rr 0 rfl; replace rr_1 := range_cell rr 1 rfl; replace rr_2 := range_cell rr 2 rfl; replace rr_3 := range_cell rr 3 rfl
        replace rr_f0 := f_rr 0; replace rr_f1 := f_rr 1; replace rr_f2 := f_rr 2; replace rr_f3 := f_rr 3
        go_wp2_with fail
        refine (CM.out _).mono ?_; rintro e wd ⟨rfl, hb⟩; have hz := hb.size; (try simp only [World.size_alloc, World.heap_drewN, World.size_drew, World.size_setCell] at hz)
        have HB4 := Lib.hid (show Below w.heap.size w wd from by have := HB3.out; exact bel)
        have z_rx : (w.heap.size) < wd.heap.size := (by omega); replace rx : wd.rangeAt (w.heap.size) 0 [.int .i64 i, .int .i64 3, .int .i64 u, .int .i64 p] := rng; replace f_rx : Free wd (w.heap.size) := fre
        have z_rh : (w.heap.size + 1) < wd.heap.size := (by omega); replace rh : wd.rangeAt (w.heap.size + 1) 0 [.int .i64 k0, .int .i64 i0, .int .i64 k1, .int .i64 i1] := rng
        have z_rr : (w.heap.size + 1 + 1) < wd.heap.size := (by omega); replace rr : wd.rangeAt (w.heap.size + 1 + 1) 0 [.int .i64 0, .int .i64 0, .int .i64 0, .int .i64 0] := rng; replace f_rr : Free wd (w.heap.size + 1 + 1) := fre
        clear hb
        replace rx_0 := range_cell rx 0 rfl; replace rx_1 := range_cell rx 1 rfl; replace rx_2 := range_cell rx 2 rfl; replace rx_3 := range_cell rx 3 rfl
        replace rx_f0 := f_rx 0; replace rx_f1 := f_rx 1; replace rx_f2 := f_rx 2; replace rx_f3 := f_rx 3
        replace rh_0 := range_cell rh 0 rfl; replace rh_1 := range_cell rh 1 rfl; replace rh_2 := range_cell rh 2 rfl; replace rh_3 := range_cell rh 3 rfl
        replace rr_0 := range_cell rr 0 rfl; replace rr_1 := range_cell rr 1 rfl; replace rr_2 := range_cell rr 2 rfl; replace rr_3 := range_cell rr 3 rfl
        replace rr_f0 := f_rr 0; replace rr_f1 := f_rr 1; replace rr_f2 := f_rr 2; replace rr_f3 := f_rr 3
        go_wp2_with fail
        refine region_below (by kernel_rfl) (by kernel_rfl) ?_; intro wR HW
        have HBR := Lib.hid (show Below w.heap.size w wR from by have := HB4.out; rw [← HW.out]; exact bel)
        have sx : wR.rangeAt w.heap.size 0 [.int .i64 i, .int .i64 3, .int .i64 0, .int .i64 p] := by rw [← HW.out]; exact rng
        have fx : Free wR w.heap.size := by rw [← HW.out]; exact fre
        have sr : wR.rangeAt (w.heap.size + 1 + 1) 0 [.int .i64 0, .int .i64 0, .int .i64 0, .int .i64 0] := by rw [← HW.out]; exact rng
        have fr : Free wR (w.heap.size + 1 + 1) := by rw [← HW.out]; exact fre
        have zR : w.heap.size + 1 + 1 < wR.heap.size := by rw [← HW.out]; (try simp); omega
        clear rx rh rr f_rx f_rr rx_0 rx_1 rx_2 rx_3 rx_f0 rx_f1 rx_f2 rx_f3 rh_0 rh_1 rh_2 rh_3 rr_0 rr_1 rr_2 rr_3 rr_f0 rr_f1 rr_f2 rr_f3
        replace sx_0 := cell_regrown (range_cell sx 0 rfl); replace sx_1 := cell_regrown (range_cell sx 1 rfl); replace sx_2 := cell_regrown (range_cell sx 2 rfl); replace sx_3 := cell_regrown (range_cell sx 3 rfl)
        (repeat (quiet_step (first | with_reducible exact Calls.regrown_of (CW.out _)))); refine wpQuiet_nil ?_; intro w2 hb2
        have HB5 := Lib.hid (show Below w.heap.size w w2 from HBR.out.trans (hb2.mono HBR.out.size))
        have zs := hb2.size
        have z_tx : (w.heap.size) < w2.heap.size := (by omega); replace tx : w2.rangeAt (w.heap.size) 0 [.int .i64 i, .int .i64 3, .int .i64 0, .int .i64 p] := rng; replace f_tx : Free w2 (w.heap.size) := fre
        have z_tr : (w.heap.size + 1 + 1) < w2.heap.size := (by omega); replace tr : w2.rangeAt (w.heap.size + 1 + 1) 0 [.int .i64 0, .int .i64 0, .int .i64 0, .int .i64 0] := rng; replace f_tr : Free w2 (w.heap.size + 1 + 1) := fre
        clear hb2 sx_0 sx_1 sx_2 sx_3
        replace tx_0 := range_cell tx 0 rfl; replace tx_1 := range_cell tx 1 rfl; replace tx_2 := range_cell tx 2 rfl; replace tx_3 := range_cell tx 3 rfl
        replace tx_f0 := f_tx 0; replace tx_f1 := f_tx 1; replace tx_f2 := f_tx 2; replace tx_f3 := f_tx 3
        replace tr_0 := range_cell tr 0 rfl; replace tr_1 := range_cell tr 1 rfl; replace tr_2 := range_cell tr 2 rfl; replace tr_3 := range_cell tr 3 rfl
        replace tr_f0 := f_tr 0; replace tr_f1 := f_tr 1; replace tr_f2 := f_tr 2; replace tr_f3 := f_tr 3
        go_wp2_with fail
        refine (refNext_any n p (by omega) (by omega) hp.1 hp.2 _).mono ?_; rintro e w' ⟨rfl, rfl⟩
        have := HB5.out
        go_wp2
        refine bodyPost_ret (ret_cell Try.results16 (w.heap.size + 1 + 1) [.int .i64 i, .int .i64 3, .int .i64 0, .int .i64 ((p + 1) % n)] _ rfl rng Try.underlying23 rfl (by kernel_rfl)) rfl ⟨rfl, ?_⟩; exact bel
    · rw [show Act.val (Act.active n i c p false true b3) = .agg #[.int .i64 i, .int .i64 2, .int .i64 0, .int .i64 0] from rfl]
      go_enter Try.func16, Try.ntmps16
      go_wp2_with fail
      refine (CO.out _).mono ?_; rintro e wa ⟨rfl, hb⟩; have hz := hb.size; (try simp only [World.size_alloc, World.heap_drewN, World.size_drew, World.size_setCell] at hz)
      have HB1 := Lib.hid (show Below w.heap.size w wa from bel)
      have z_rx : (w.heap.size) < wa.heap.size := (by omega); replace rx : wa.rangeAt (w.heap.size) 0 [.int .i64 i, .int .i64 3, .int .i64 c, .int .i64 p] := rng; replace f_rx : Free wa (w.heap.size) := fre
      have z_rh : (w.heap.size + 1) < wa.heap.size := (by omega); replace rh : wa.rangeAt (w.heap.size + 1) 0 [.int .i64 k0, .int .i64 i0, .int .i64 k1, .int .i64 i1] := rng
      have z_rr : (w.heap.size + 1 + 1) < wa.heap.size := (by omega); replace rr : wa.rangeAt (w.heap.size + 1 + 1) 0 [.int .i64 0, .int .i64 0, .int .i64 0, .int .i64 0] := rng; replace f_rr : Free wa (w.heap.size + 1 + 1) := fre
      clear hb
      replace rx_0 := range_cell rx 0 rfl; replace rx_1 := range_cell rx 1 rfl; replace rx_2 := range_cell rx 2 rfl; replace rx_3 := range_cell rx 3 rfl
      replace rx_f0 := f_rx 0; replace rx_f1 := f_rx 1; replace rx_f2 := f_rx 2; replace rx_f3 := f_rx 3
      replace rh_0 := range_cell rh 0 rfl; replace rh_1 := range_cell rh 1 rfl; replace rh_2 := range_cell rh 2 rfl; replace rh_3 := range_cell rh 3 rfl
      replace rr_0 := range_cell rr 0 rfl; replace rr_1 := range_cell rr 1 rfl; replace rr_2 := range_cell rr 2 rfl; replace rr_3 := range_cell rr 3 rfl
      replace rr_f0 := f_rr 0; replace rr_f1 := f_rr 1; replace rr_f2 := f_rr 2; replace rr_f3 := f_rr 3
      go_wp2_with fail
      refine (CR.out _).mono ?_; rintro e wb ⟨rfl, hb⟩; have hz := hb.size; (try simp only [World.size_alloc, World.heap_drewN, World.size_drew, World.size_setCell] at hz)
      have HB2 := Lib.hid (show Below w.heap.size w wb from by have := HB1.out; exact bel)
      have z_rx : (w.heap.size) < wb.heap.size := (by omega); replace rx : wb.rangeAt (w.heap.size) 0 [.int .i64 i, .int .i64 3, .int .i64 c, .int .i64 p] := rng; replace f_rx : Free wb (w.heap.size) := fre
      have z_rh : (w.heap.size + 1) < wb.heap.size := (by omega); replace rh : wb.rangeAt (w.heap.size + 1) 0 [.int .i64 k0, .int .i64 i0, .int .i64 k1, .int .i64 i1] := rng
      have z_rr : (w.heap.size + 1 + 1) < wb.heap.size := (by omega); replace rr : wb.rangeAt (w.heap.size + 1 + 1) 0 [.int .i64 0, .int .i64 0, .int .i64 0, .int .i64 0] := rng; replace f_rr : Free wb (w.heap.size + 1 + 1) := fre
      clear hb
      replace rx_0 := range_cell rx 0 rfl; replace rx_1 := range_cell rx 1 rfl; replace rx_2 := range_cell rx 2 rfl; replace rx_3 := range_cell rx 3 rfl
      replace rx_f0 := f_rx 0; replace rx_f1 := f_rx 1; replace rx_f2 := f_rx 2; replace rx_f3 := f_rx 3
      replace rh_0 := range_cell rh 0 rfl; replace rh_1 := range_cell rh 1 rfl; replace rh_2 := range_cell rh 2 rfl; replace rh_3 := range_cell rh 3 rfl
      replace rr_0 := range_cell rr 0 rfl; replace rr_1 := range_cell rr 1 rfl; replace rr_2 := range_cell rr 2 rfl; replace rr_3 := range_cell rr 3 rfl
      replace rr_f0 := f_rr 0; replace rr_f1 := f_rr 1; replace rr_f2 := f_rr 2; replace rr_f3 := f_rr 3
      go_wp2_with fail
      refine (refTo_any _ _ _ _ _ _ _).mono ?_; rintro e wc ⟨rfl, hb⟩; have hz := hb.size; (try simp only [World.size_alloc, World.heap_drewN, World.size_drew, World.size_setCell] at hz)
      have HB3 := Lib.hid (show Below w.heap.size w wc from by have := HB2.out; exact bel)
      have z_rx : (w.heap.size) < wc.heap.size := (by omega); replace rx : wc.rangeAt (w.heap.size) 0 [.int .i64 i, .int .i64 3, .int .i64 c, .int .i64 p] := rng; replace f_rx : Free wc (w.heap.size) := fre
      have z_rh : (w.heap.size + 1) < wc.heap.size := (by omega); replace rh : wc.rangeAt (w.heap.size + 1) 0 [.int .i64 k0, .int .i64 i0, .int .i64 k1, .int .i64 i1] := rng
      have z_rr : (w.heap.size + 1 + 1) < wc.heap.size := (by omega); replace rr : wc.rangeAt (w.heap.size + 1 + 1) 0 [.int .i64 0, .int .i64 0, .int .i64 0, .int .i64 0] := rng; replace f_rr : Free wc (w.heap.size + 1 + 1) := fre
      clear hb
      replace rx_0 := range_cell rx 0 rfl; replace rx_1 := range_cell rx 1 rfl; replace rx_2 := range_cell rx 2 rfl; replace rx_3 := range_cell rx 3 rfl
      replace rx_f0 := f_rx 0; replace rx_f1 := f_rx 1; replace rx_f2 := f_rx 2; replace rx_f3 := f_rx 3
      replace rh_0 := range_cell rh 0 rfl; replace rh_1 := range_cell rh 1 rfl; replace rh_2 := range_cell rh 2 rfl; replace rh_3 := range_cell rh 3 rfl
      replace rr_0 := range_cell rr 0 rfl; replace rr_1 := range_cell rr 1 rfl; replace rr_2 := range_cell rr 2 rfl; replace rr_3 := range_cell rr 3 rfl
      replace rr_f0 := f_rr 0; replace rr_f1 := f_rr 1; replace rr_f2 := f_rr 2; replace rr_f3 := f_rr 3
      have := HB3.out
      go_wp2
      refine bodyPost_ret (ret_cell Try.results16 (w.heap.size + 1 + 1) [.int .i64 i, .int .i64 2, .int .i64 0, .int .i64 0] _ rfl rng Try.underlying23 rfl (by kernel_rfl)) rfl ⟨rfl, ?_⟩; exact bel
  · rw [show Act.val (Act.active n i c p true b2 b3) = .agg #[.int .i64 i, .int .i64 1, .int .i64 0, .int .i64 0] from rfl]
    go_enter Try.func16, Try.ntmps16
    go_wp2_with fail
    refine (CO.out _).mono ?_; rintro e wa ⟨rfl, hb⟩; have hz := hb.size; (try simp only [World.size_alloc, World.heap_drewN, World.size_drew, World.size_setCell] at hz)
    have HB1 := Lib.hid (show Below w.heap.size w wa from bel)
    have z_rx : (w.heap.size) < wa.heap.size := (by omega); replace rx : wa.rangeAt (w.heap.size) 0 [.int .i64 i, .int .i64 3, .int .i64 c, .int .i64 p] := rng; replace f_rx : Free wa (w.heap.size) := fre
    have z_rh : (w.heap.size + 1) < wa.heap.size := (by omega); replace rh : wa.rangeAt (w.heap.size + 1) 0 [.int .i64 k0, .int .i64 i0, .int .i64 k1, .int .i64 i1] := rng
    have z_rr : (w.heap.size + 1 + 1) < wa.heap.size := (by omega); replace rr : wa.rangeAt (w.heap.size + 1 + 1) 0 [.int .i64 0, .int .i64 0, .int .i64 0, .int .i64 0] := rng; replace f_rr : Free wa (w.heap.size + 1 + 1) := fre
    clear hb
    replace rx_0 := range_cell rx 0 rfl; replace rx_1 := range_cell rx 1 rfl; replace rx_2 := range_cell rx 2 rfl; replace rx_3 := range_cell rx 3 rfl
    replace rx_f0 := f_rx 0; replace rx_f1 := f_rx 1; replace rx_f2 := f_rx 2; replace rx_f3 := f_rx 3
    replace rh_0 := range_cell rh 0 rfl; replace rh_1 := range_cell rh 1 rfl; replace rh_2 := range_cell rh 2 rfl; replace rh_3 := range_cell rh 3 rfl
    replace rr_0 := range_cell rr 0 rfl; replace rr_1 := range_cell rr 1 rfl; replace rr_2 := range_cell rr 2 rfl; replace rr_3 := range_cell rr 3 rfl
    replace rr_f0 := f_rr 0; replace rr_f1 := f_rr 1; replace rr_f2 := f_rr 2; replace rr_f3 := f_rr 3
    go_wp2_with fail
    refine (CR.out _).mono ?_; rintro e wb ⟨rfl, hb⟩; have hz := hb.size; (try simp only [World.size_alloc, World.heap_drewN, World.size_drew, World.size_setCell] at hz)
    have HB2 := Lib.hid (show Below w.heap.size w wb from by have := HB1.out; exact bel)
    have z_rx : (w.heap.size) < wb.heap.size := (by omega); replace rx : wb.rangeAt (w.heap.size) 0 [.int .i64 i, .int .i64 3, .int .i64 c, .int .i64 p] := rng; replace f_rx : Free wb (w.heap.size) := fre
    have z_rh : (w.heap.size + 1) < wb.heap.size := (by omega); replace rh : wb.rangeAt (w.heap.size + 1) 0 [.int .i64 k0, .int .i64 i0, .int .i64 k1, .int .i64 i1] := rng
    have z_rr : (w.heap.size + 1 + 1) < wb.heap.size := (by omega); replace rr : wb.rangeAt (w.heap.size + 1 + 1) 0 [.int .i64 0, .int .i64 0, .int .i64 0, .int .i64 0] := rng; replace f_rr : Free wb (w.heap.size + 1 + 1) := fre
    clear hb
    replace rx_0 := range_cell rx 0 rfl; replace rx_1 := range_cell rx 1 rfl; replace rx_2 := range_cell rx 2 rfl; replace rx_3 := range_cell rx 3 rfl
    replace rx_f0 := f_rx 0; replace rx_f1 := f_rx 1; replace rx_f2 := f_rx 2; replace rx_f3 := f_rx 3
    replace rh_0 := range_cell rh 0 rfl; replace rh_1 := range_cell rh 1 rfl; replace rh_2 := range_cell rh 2 rfl; replace rh_3 := range_cell rh 3 rfl
    replace rr_0 := range_cell rr 0 rfl; replace rr_1 := range_cell rr 1 rfl; replace rr_2 := range_cell rr 2 rfl; replace rr_3 := range_cell rr 3 rfl
    replace rr_f0 := f_rr 0; replace rr_f1 := f_rr 1; replace rr_f2 := f_rr 2; replace rr_f3 := f_rr 3
    go_wp2_with fail
    refine (refTo_any _ _ _ _ _ _ _).mono ?_; rintro e wc ⟨rfl, hb⟩; have hz := hb.size; (try simp only [World.size_alloc, World.heap_drewN, World.size_drew, World.size_setCell] at hz)
    have HB3 := Lib.hid (show Below w.heap.size w wc from by have := HB2.out; exact bel)
    have z_rx : (w.heap.size) < wc.heap.size := (by omega); replace rx : wc.rangeAt (w.heap.size) 0 [.int .i64 i, .int .i64 3, .int .i64 c, .int .i64 p] := rng; replace f_rx : Free wc (w.heap.size) := fre
    have z_rh : (w.heap.size + 1) < wc.heap.size := (by omega); replace rh : wc.rangeAt (w.heap.size + 1) 0 [.int .i64 k0, .int .i64 i0, .int .i64 k1, .int .i64 i1] := rng
    have z_rr : (w.heap.size + 1 + 1) < wc.heap.size := (by omega); replace rr : wc.rangeAt (w.heap.size + 1 + 1) 0 [.int .i64 0, .int .i64 0, .int .i64 0, .int .i64 0] := rng; replace f_rr : Free wc (w.heap.size + 1 + 1) := fre
    clear hb
    replace rx_0 := range_cell rx 0 rfl; replace rx_1 := range_cell rx 1 rfl; replace rx_2 := range_cell rx 2 rfl; replace rx_3 := range_cell rx 3 rfl
    replace rx_f0 := f_rx 0; replace rx_f1 := f_rx 1; replace rx_f2 := f_rx 2; replace rx_f3 := f_rx 3
    replace rh_0 := range_cell rh 0 rfl; replace rh_1 := range_cell rh 1 rfl; replace rh_2 := range_cell rh 2 rfl; replace rh_3 := range_cell rh 3 rfl
    replace rr_0 := range_cell rr 0 rfl; replace rr_1 := range_cell rr 1 rfl; replace rr_2 := range_cell rr 2 rfl; replace rr_3 := range_cell rr 3 rfl
    replace rr_f0 := f_rr 0; replace rr_f1 := f_rr 1; replace rr_f2 := f_rr 2; replace rr_f3 := f_rr 3
    have := HB3.out
    go_wp2
    refine bodyPost_ret (ret_cell Try.results16 (w.heap.size + 1 + 1) [.int .i64 i, .int .i64 1, .int .i64 0, .int .i64 0] _ rfl rng Try.underlying23 rfl (by kernel_rfl)) rfl ⟨rfl, ?_⟩; exact bel

end Go.Proofs.Ytjkdmnodamcjnaa
