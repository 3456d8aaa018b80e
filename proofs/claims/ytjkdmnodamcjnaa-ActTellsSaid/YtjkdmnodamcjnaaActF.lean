
import Derived.Test.YtjkdmnodamcjnaaRows
import Derived.Test.YtjkdmnodamcjnaaActE
namespace Go.Proofs.Ytjkdmnodamcjnaa
set_option linter.unusedVariables false
set_option linter.unusedSimpArgs false
open Go.ChangeShapes Go.WideShapes Go.RowKit

theorem refStep_no (n i m c p k0 i0 k1 i1 : Int) (h : Node.right n i m c p = false) (w : World) :
    Calls Try.prog 10 #[.int .i64 n, .agg #[.int .i64 i, .int .i64 m, .int .i64 c, .int .i64 p], .agg #[.int .i64 k0, .int .i64 i0, .int .i64 k1, .int .i64 i1]] w fun e w' => e = .returned (.tuple #[.agg #[.int .i64 0, .int .i64 0, .int .i64 0, .int .i64 0], .int .i64 1]) ∧ Below w.heap.size w w' := by
  have HH := Lib.hid h
  clear h
  go_enter Try.func10, Try.ntmps10
  go_wp2_with fail
  refine (refNright_any _ _ _ _ _ _).mono ?_; rintro e wa ⟨rfl, hb⟩; have hz := hb.size; (try simp only [World.size_alloc, World.heap_drewN, World.size_drew, World.size_setCell] at hz)
  rw [HH.out]
  have HB1 := Lib.hid (show Below w.heap.size w wa from bel)
  have z_rx : (w.heap.size) < wa.heap.size := (by omega); replace rx : wa.rangeAt (w.heap.size) 0 [.int .i64 i, .int .i64 m, .int .i64 c, .int .i64 p] := rng; replace f_rx : Free wa (w.heap.size) := fre
  have z_rh : (w.heap.size + 1) < wa.heap.size := (by omega); replace rh : wa.rangeAt (w.heap.size + 1) 0 [.int .i64 k0, .int .i64 i0, .int .i64 k1, .int .i64 i1] := rng
  have z_rr : (w.heap.size + 1 + 1) < wa.heap.size := (by omega); replace rr : wa.rangeAt (w.heap.size + 1 + 1) 0 [.int .i64 0, .int .i64 0, .int .i64 0, .int .i64 0] := rng; replace f_rr : Free wa (w.heap.size + 1 + 1) := fre
  clear hb
  replace rx_0 := range_cell rx 0 rfl; replace rx_1 := range_cell rx 1 rfl; replace rx_2 := range_cell rx 2 rfl; replace rx_3 := range_cell rx 3 rfl
  replace rx_f0 := f_rx 0; replace rx_f1 := f_rx 1; replace rx_f2 := f_rx 2; replace rx_f3 := f_rx 3
  replace rh_0 := range_cell rh 0 rfl; replace rh_1 := range_cell rh 1 rfl; replace rh_2 := range_cell rh 2 rfl; replace rh_3 := range_cell rh 3 rfl
  replace rr_0 := range_cell rr 0 rfl; replace rr_1 := range_cell rr 1 rfl; replace rr_2 := range_cell rr 2 rfl; replace rr_3 := range_cell rr 3 rfl
  replace rr_f0 := f_rr 0; replace rr_f1 := f_rr 1; replace rr_f2 := f_rr 2; replace rr_f3 := f_rr 3
  have := HB1.out
  go_wp2
  refine bodyPost_ret (ret_cell_tmp Try.results10 (w.heap.size + 1 + 1) [.int .i64 0, .int .i64 0, .int .i64 0, .int .i64 0] _ rfl rng Try.underlying23 rfl (by kernel_rfl)) rfl ⟨rfl, ?_⟩; exact bel
theorem refStep_0 (n i c p k0 i0 k1 i1 : Int) (h : Node.right n i 0 c p = true) (w : World) :
    Calls Try.prog 10 #[.int .i64 n, .agg #[.int .i64 i, .int .i64 0, .int .i64 c, .int .i64 p], .agg #[.int .i64 k0, .int .i64 i0, .int .i64 k1, .int .i64 i1]] w fun e w' => e = .returned (.tuple #[.agg #[.int .i64 0, .int .i64 0, .int .i64 0, .int .i64 0], .int .i64 1]) ∧ Below w.heap.size w w' := by
  have HH := Lib.hid h
  clear h
  go_enter Try.func10, Try.ntmps10
  go_wp2_with fail
  refine (refNright_any _ _ _ _ _ _).mono ?_; rintro e wa ⟨rfl, hb⟩; have hz := hb.size; (try simp only [World.size_alloc, World.heap_drewN, World.size_drew, World.size_setCell] at hz)
  rw [HH.out]
  have HB1 := Lib.hid (show Below w.heap.size w wa from bel)
  have z_rx : (w.heap.size) < wa.heap.size := (by omega); replace rx : wa.rangeAt (w.heap.size) 0 [.int .i64 i, .int .i64 0, .int .i64 c, .int .i64 p] := rng; replace f_rx : Free wa (w.heap.size) := fre
  have z_rh : (w.heap.size + 1) < wa.heap.size := (by omega); replace rh : wa.rangeAt (w.heap.size + 1) 0 [.int .i64 k0, .int .i64 i0, .int .i64 k1, .int .i64 i1] := rng
  have z_rr : (w.heap.size + 1 + 1) < wa.heap.size := (by omega); replace rr : wa.rangeAt (w.heap.size + 1 + 1) 0 [.int .i64 0, .int .i64 0, .int .i64 0, .int .i64 0] := rng; replace f_rr : Free wa (w.heap.size + 1 + 1) := fre
  clear hb
  replace rx_0 := range_cell rx 0 rfl; replace rx_1 := range_cell rx 1 rfl; replace rx_2 := range_cell rx 2 rfl; replace rx_3 := range_cell rx 3 rfl
  replace rx_f0 := f_rx 0; replace rx_f1 := f_rx 1; replace rx_f2 := f_rx 2; replace rx_f3 := f_rx 3
  replace rh_0 := range_cell rh 0 rfl; replace rh_1 := range_cell rh 1 rfl; replace rh_2 := range_cell rh 2 rfl; replace rh_3 := range_cell rh 3 rfl
  replace rr_0 := range_cell rr 0 rfl; replace rr_1 := range_cell rr 1 rfl; replace rr_2 := range_cell rr 2 rfl; replace rr_3 := range_cell rr 3 rfl
  replace rr_f0 := f_rr 0; replace rr_f1 := f_rr 1; replace rr_f2 := f_rr 2; replace rr_f3 := f_rr 3
  have := HB1.out
  go_wp2
  refine bodyPost_ret (ret_cell_tmp Try.results10 (w.heap.size + 1 + 1) [.int .i64 0, .int .i64 0, .int .i64 0, .int .i64 0] _ rfl rng Try.underlying23 rfl (by kernel_rfl)) rfl ⟨rfl, ?_⟩; exact bel
set_option maxHeartbeats 1000000 in
theorem refStep_3 (n i c p k0 i0 k1 i1 : Int) (h : Node.right n i 3 c p = true) (w : World) :
    Calls Try.prog 10 #[.int .i64 n, .agg #[.int .i64 i, .int .i64 3, .int .i64 c, .int .i64 p], .agg #[.int .i64 k0, .int .i64 i0, .int .i64 k1, .int .i64 i1]] w fun e w' => e = .returned (.tuple #[Act.val (Act.step n i 3 c p k0 i0 k1 i1), .int .i64 0]) ∧ Below w.heap.size w w' := by
  have hr := Say.right_of h
  have HH := Lib.hid h
  have CG := Lib.hid (fun w => refActive_any n i c p k0 i0 k1 i1 (by omega) (by omega) (by omega) w)
  rw [show Act.active n i c p (Hear.isWrong p k0 i0 || Hear.isWrong p k1 i1) (Hear.isOther i k0 i0 || Hear.isOther i k1 i1) (Hear.isMatch p k0 i0 || Hear.isMatch p k1 i1) = Act.step n i 3 c p k0 i0 k1 i1 from rfl] at CG
  generalize Act.step n i 3 c p k0 i0 k1 i1 = y at *
  obtain ⟨yi, ym, yc, yp⟩ := y
  rw [show Act.val ⟨yi, ym, yc, yp⟩ = .agg #[.int .i64 yi, .int .i64 ym, .int .i64 yc, .int .i64 yp] from rfl] at CG ⊢
  clear h hr
  go_enter Try.func10, Try.ntmps10
  go_wp2_with fail
  refine (refNright_any _ _ _ _ _ _).mono ?_; rintro e wa ⟨rfl, hb⟩; have hz := hb.size; (try simp only [World.size_alloc, World.heap_drewN, World.size_drew, World.size_setCell] at hz)
  rw [HH.out]
  have HB1 := Lib.hid (show Below w.heap.size w wa from bel)
  have z_rx : (w.heap.size) < wa.heap.size := (by omega); replace rx : wa.rangeAt (w.heap.size) 0 [.int .i64 i, .int .i64 3, .int .i64 c, .int .i64 p] := rng; replace f_rx : Free wa (w.heap.size) := fre
  have z_rh : (w.heap.size + 1) < wa.heap.size := (by omega); replace rh : wa.rangeAt (w.heap.size + 1) 0 [.int .i64 k0, .int .i64 i0, .int .i64 k1, .int .i64 i1] := rng
  have z_rr : (w.heap.size + 1 + 1) < wa.heap.size := (by omega); replace rr : wa.rangeAt (w.heap.size + 1 + 1) 0 [.int .i64 0, .int .i64 0, .int .i64 0, .int .i64 0] := rng; replace f_rr : Free wa (w.heap.size + 1 + 1) := fre
  clear hb
  replace rx_0 := range_cell rx 0 rfl; replace rx_1 := range_cell rx 1 rfl; replace rx_2 := range_cell rx 2 rfl; replace rx_3 := range_cell rx 3 rfl
  replace rx_f0 := f_rx 0; replace rx_f1 := f_rx 1; replace rx_f2 := f_rx 2; replace rx_f3 := f_rx 3
  replace rh_0 := range_cell rh 0 rfl; replace rh_1 := range_cell rh 1 rfl; replace rh_2 := range_cell rh 2 rfl; replace rh_3 := range_cell rh 3 rfl
  replace rr_0 := range_cell rr 0 rfl; replace rr_1 := range_cell rr 1 rfl; replace rr_2 := range_cell rr 2 rfl; replace rr_3 := range_cell rr 3 rfl
  replace rr_f0 := f_rr 0; replace rr_f1 := f_rr 1; replace rr_f2 := f_rr 2; replace rr_f3 := f_rr 3
  go_wp2_with fail
  refine (CG.out _).mono ?_; rintro e wb ⟨rfl, hb⟩; have hz := hb.size; (try simp only [World.size_alloc, World.heap_drewN, World.size_drew, World.size_setCell] at hz)
  have HB2 := Lib.hid (show Below w.heap.size w wb from by have := HB1.out; exact bel)
  have z_rx : (w.heap.size) < wb.heap.size := (by omega); replace rx : wb.rangeAt (w.heap.size) 0 [.int .i64 i, .int .i64 3, .int .i64 c, .int .i64 p] := rng; replace f_rx : Free wb (w.heap.size) := fre
  have z_rh : (w.heap.size + 1) < wb.heap.size := (by omega); replace rh : wb.rangeAt (w.heap.size + 1) 0 [.int .i64 k0, .int .i64 i0, .int .i64 k1, .int .i64 i1] := rng
  have z_rr : (w.heap.size + 1 + 1) < wb.heap.size := (by omega); replace rr : wb.rangeAt (w.heap.size + 1 + 1) 0 [.int .i64 0, .int .i64 0, .int .i64 0, .int .i64 0] := rng; replace f_rr : Free wb (w.heap.size + 1 + 1) := fre
  clear hb
  replace rx_0 := range_cell rx 0 rfl; replace rx_1 := range_cell rx 1 rfl; replace rx_2 := range_cell rx 2 rfl; replace rx_3 := range_cell rx 3 rfl
  replace rx_f0 := f_rx 0; replace rx_f1 := f_rx 1; replace rx_f2 := f_rx 2; replace rx_f3 := f_rx 3
  replace rh_0 := range_cell rh 0 rfl; replace rh_1 := range_cell rh 1 rfl; replace rh_2 := range_cell rh 2 rfl; replace rh_3 := range_cell rh 3 rfl
  replace rr_0 := range_cell rr 0 rfl; replace rr_1 := range_cell rr 1 rfl; replace rr_2 := range_cell rr 2 rfl; replace rr_3 := range_cell rr 3 rfl
  replace rr_f0 := f_rr 0; replace rr_f1 := f_rr 1; replace rr_f2 := f_rr 2; replace rr_f3 := f_rr 3
  have := HB2.out
  go_wp2
  refine bodyPost_ret (ret_cell_tmp Try.results10 (w.heap.size + 1 + 1) [.int .i64 yi, .int .i64 ym, .int .i64 yc, .int .i64 yp] _ rfl rng Try.underlying23 rfl (by kernel_rfl)) rfl ⟨rfl, ?_⟩; exact bel
set_option maxHeartbeats 2000000 in
theorem refStep_1 (n i c p k0 i0 k1 i1 : Int) (h : Node.right n i 1 c p = true) (hh : Act.heard n k0 i0 k1 i1 = true) (w : World) :
    Calls Try.prog 10 #[.int .i64 n, .agg #[.int .i64 i, .int .i64 1, .int .i64 c, .int .i64 p], .agg #[.int .i64 k0, .int .i64 i0, .int .i64 k1, .int .i64 i1]] w fun e w' => e = .returned (.tuple #[Act.val (Act.step n i 1 c p k0 i0 k1 i1), .int .i64 0]) ∧ Below w.heap.size w w' := by
  have hr := Say.right_of h
  have hn : 3 ≤ n ∧ n ≤ 8 := by omega
  have hc : 0 ≤ c ∧ c ≤ 1073741824 := by omega
  have H1 := Act.info_there hh
  have H2 := Act.other_there i hh
  have HH := Lib.hid h
  have CS := Lib.hid (fun w => refSayOf_any n i 1 c p w)
  have e3 : Say.err n i 1 c p = 0 := by unfold Say.err; rw [if_pos h]
  rw [e3] at CS
  have CI := Lib.hid (fun w => refInfo_any k0 i0 k1 i1 w)
  have CO := Lib.hid (fun w => refOther_any k0 i0 k1 i1 i w)
  rw [show Act.step n i 1 c p k0 i0 k1 i1 = Act.listen n i c p (Hear.isInfo k0 || Hear.isInfo k1) (Hear.firstI (Hear.isInfo k0) (Hear.isInfo k1) i0 i1) (Hear.isOther i k0 i0 || Hear.isOther i k1 i1) (Say.kind n i 1 c p == 1) from rfl]
  clear h hh hr e3
  generalize (Hear.isInfo k0 || Hear.isInfo k1) = b1 at *
  generalize Hear.firstI (Hear.isInfo k0) (Hear.isInfo k1) i0 i1 = d1 at *
  generalize (Hear.isOther i k0 i0 || Hear.isOther i k1 i1) = b2 at *
  generalize Hear.firstI (Hear.isOther i k0 i0) (Hear.isOther i k1 i1) i0 i1 = d2 at *
  generalize Say.kind n i 1 c p = sk at *
  generalize Say.id_ n i 1 c p = si at *
  cases b1
  · clear H1 H2
    cases b2
    · by_cases hs : sk = 1
      · have hs2 : (sk == 1) = true := (by simp [hs]); clear hs
        rw [hs2, show Act.val (Act.listen n i c p false d1 false true) = .agg #[.int .i64 i, .int .i64 2, .int .i64 0, .int .i64 0] from rfl]
        go_enter Try.func10, Try.ntmps10
        go_wp2_with fail
        refine (refNright_any _ _ _ _ _ _).mono ?_; rintro e wa ⟨rfl, hb⟩; have hz := hb.size; (try simp only [World.size_alloc, World.heap_drewN, World.size_drew, World.size_setCell] at hz)
        rw [HH.out]
        have HB1 := Lib.hid (show Below w.heap.size w wa from bel)
        have z_rx : (w.heap.size) < wa.heap.size := (by omega); replace rx : wa.rangeAt (w.heap.size) 0 [.int .i64 i, .int .i64 1, .int .i64 c, .int .i64 p] := rng; replace f_rx : Free wa (w.heap.size) := fre
        have z_rh : (w.heap.size + 1) < wa.heap.size := (by omega); replace rh : wa.rangeAt (w.heap.size + 1) 0 [.int .i64 k0, .int .i64 i0, .int .i64 k1, .int .i64 i1] := rng
        have z_rr : (w.heap.size + 1 + 1) < wa.heap.size := (by omega); replace rr : wa.rangeAt (w.heap.size + 1 + 1) 0 [.int .i64 0, .int .i64 0, .int .i64 0, .int .i64 0] := rng; replace f_rr : Free wa (w.heap.size + 1 + 1) := fre
        clear hb
        replace rx_0 := range_cell rx 0 rfl; replace rx_1 := range_cell rx 1 rfl; replace rx_2 := range_cell rx 2 rfl; replace rx_3 := range_cell rx 3 rfl
        replace rx_f0 := f_rx 0; replace rx_f1 := f_rx 1; replace rx_f2 := f_rx 2; replace rx_f3 := f_rx 3
        replace rh_0 := range_cell rh 0 rfl; replace rh_1 := range_cell rh 1 rfl; replace rh_2 := range_cell rh 2 rfl; replace rh_3 := range_cell rh 3 rfl
        replace rr_0 := range_cell rr 0 rfl; replace rr_1 := range_cell rr 1 rfl; replace rr_2 := range_cell rr 2 rfl; replace rr_3 := range_cell rr 3 rfl
        replace rr_f0 := f_rr 0; replace rr_f1 := f_rr 1; replace rr_f2 := f_rr 2; replace rr_f3 := f_rr 3
        go_wp2_with fail
        refine (CS.out _).mono ?_; rintro e wb ⟨rfl, hb⟩; have hz := hb.size; (try simp only [World.size_alloc, World.heap_drewN, World.size_drew, World.size_setCell] at hz)
        have HB2 := Lib.hid (show Below w.heap.size w wb from by have := HB1.out; exact bel)
        have z_rx : (w.heap.size) < wb.heap.size := (by omega); replace rx : wb.rangeAt (w.heap.size) 0 [.int .i64 i, .int .i64 1, .int .i64 c, .int .i64 p] := rng; replace f_rx : Free wb (w.heap.size) := fre
        have z_rh : (w.heap.size + 1) < wb.heap.size := (by omega); replace rh : wb.rangeAt (w.heap.size + 1) 0 [.int .i64 k0, .int .i64 i0, .int .i64 k1, .int .i64 i1] := rng
        have z_rr : (w.heap.size + 1 + 1) < wb.heap.size := (by omega); replace rr : wb.rangeAt (w.heap.size + 1 + 1) 0 [.int .i64 0, .int .i64 0, .int .i64 0, .int .i64 0] := rng; replace f_rr : Free wb (w.heap.size + 1 + 1) := fre
        clear hb
        replace rx_0 := range_cell rx 0 rfl; replace rx_1 := range_cell rx 1 rfl; replace rx_2 := range_cell rx 2 rfl; replace rx_3 := range_cell rx 3 rfl
        replace rx_f0 := f_rx 0; replace rx_f1 := f_rx 1; replace rx_f2 := f_rx 2; replace rx_f3 := f_rx 3
        replace rh_0 := range_cell rh 0 rfl; replace rh_1 := range_cell rh 1 rfl; replace rh_2 := range_cell rh 2 rfl; replace rh_3 := range_cell rh 3 rfl
        replace rr_0 := range_cell rr 0 rfl; replace rr_1 := range_cell rr 1 rfl; replace rr_2 := range_cell rr 2 rfl; replace rr_3 := range_cell rr 3 rfl
        replace rr_f0 := f_rr 0; replace rr_f1 := f_rr 1; replace rr_f2 := f_rr 2; replace rr_f3 := f_rr 3
        go_wp2_with fail
        refine (CI.out _).mono ?_; rintro e wc ⟨rfl, hb⟩; have hz := hb.size; (try simp only [World.size_alloc, World.heap_drewN, World.size_drew, World.size_setCell] at hz)
        have HB3 := Lib.hid (show Below w.heap.size w wc from by have := HB2.out; exact bel)
        have z_rx : (w.heap.size) < wc.heap.size := (by omega); replace rx : wc.rangeAt (w.heap.size) 0 [.int .i64 i, .int .i64 1, .int .i64 c, .int .i64 p] := rng; replace f_rx : Free wc (w.heap.size) := fre
        have z_rh : (w.heap.size + 1) < wc.heap.size := (by omega); replace rh : wc.rangeAt (w.heap.size + 1) 0 [.int .i64 k0, .int .i64 i0, .int .i64 k1, .int .i64 i1] := rng
        have z_rr : (w.heap.size + 1 + 1) < wc.heap.size := (by omega); replace rr : wc.rangeAt (w.heap.size + 1 + 1) 0 [.int .i64 0, .int .i64 0, .int .i64 0, .int .i64 0] := rng; replace f_rr : Free wc (w.heap.size + 1 + 1) := fre
        have z_rf : (wb.heap.size) < wc.heap.size := (by omega); replace rf : wc.rangeAt (wb.heap.size) 0 [.int .i64 sk, .int .i64 si] := rng
        clear hb
        replace rx_0 := range_cell rx 0 rfl; replace rx_1 := range_cell rx 1 rfl; replace rx_2 := range_cell rx 2 rfl; replace rx_3 := range_cell rx 3 rfl
        replace rx_f0 := f_rx 0; replace rx_f1 := f_rx 1; replace rx_f2 := f_rx 2; replace rx_f3 := f_rx 3
        replace rh_0 := range_cell rh 0 rfl; replace rh_1 := range_cell rh 1 rfl; replace rh_2 := range_cell rh 2 rfl; replace rh_3 := range_cell rh 3 rfl
        replace rr_0 := range_cell rr 0 rfl; replace rr_1 := range_cell rr 1 rfl; replace rr_2 := range_cell rr 2 rfl; replace rr_3 := range_cell rr 3 rfl
        replace rr_f0 := f_rr 0; replace rr_f1 := f_rr 1; replace rr_f2 := f_rr 2; replace rr_f3 := f_rr 3
        replace rf_0 := range_cell rf 0 rfl; replace rf_1 := range_cell rf 1 rfl
        go_wp2_with fail
        refine (CO.out _).mono ?_; rintro e wd ⟨rfl, hb⟩; have hz := hb.size; (try simp only [World.size_alloc, World.heap_drewN, World.size_drew, World.size_setCell] at hz)
        have HB4 := Lib.hid (show Below w.heap.size w wd from by have := HB3.out; exact bel)
        have z_rx : (w.heap.size) < wd.heap.size := (by omega); replace rx : wd.rangeAt (w.heap.size) 0 [.int .i64 i, .int .i64 1, .int .i64 c, .int .i64 p] := rng; replace f_rx : Free wd (w.heap.size) := fre
        have z_rh : (w.heap.size + 1) < wd.heap.size := (by omega); replace rh : wd.rangeAt (w.heap.size + 1) 0 [.int .i64 k0, .int .i64 i0, .int .i64 k1, .int .i64 i1] := rng
        have z_rr : (w.heap.size + 1 + 1) < wd.heap.size := (by omega); replace rr : wd.rangeAt (w.heap.size + 1 + 1) 0 [.int .i64 0, .int .i64 0, .int .i64 0, .int .i64 0] := rng; replace f_rr : Free wd (w.heap.size + 1 + 1) := fre
        have z_rf : (wb.heap.size) < wd.heap.size := (by omega); replace rf : wd.rangeAt (wb.heap.size) 0 [.int .i64 sk, .int .i64 si] := rng
        clear hb
        replace rx_0 := range_cell rx 0 rfl; replace rx_1 := range_cell rx 1 rfl; replace rx_2 := range_cell rx 2 rfl; replace rx_3 := range_cell rx 3 rfl
        replace rx_f0 := f_rx 0; replace rx_f1 := f_rx 1; replace rx_f2 := f_rx 2; replace rx_f3 := f_rx 3
        replace rh_0 := range_cell rh 0 rfl; replace rh_1 := range_cell rh 1 rfl; replace rh_2 := range_cell rh 2 rfl; replace rh_3 := range_cell rh 3 rfl
        replace rr_0 := range_cell rr 0 rfl; replace rr_1 := range_cell rr 1 rfl; replace rr_2 := range_cell rr 2 rfl; replace rr_3 := range_cell rr 3 rfl
        replace rr_f0 := f_rr 0; replace rr_f1 := f_rr 1; replace rr_f2 := f_rr 2; replace rr_f3 := f_rr 3
        replace rf_0 := range_cell rf 0 rfl; replace rf_1 := range_cell rf 1 rfl
        go_wp2_with fail
        refine (refTo_any _ _ _ _ _ _ _).mono ?_; rintro e we ⟨rfl, hb⟩; have hz := hb.size; (try simp only [World.size_alloc, World.heap_drewN, World.size_drew, World.size_setCell] at hz)
        have HB5 := Lib.hid (show Below w.heap.size w we from by have := HB4.out; exact bel)
        have z_rx : (w.heap.size) < we.heap.size := (by omega); replace rx : we.rangeAt (w.heap.size) 0 [.int .i64 i, .int .i64 1, .int .i64 c, .int .i64 p] := rng; replace f_rx : Free we (w.heap.size) := fre
        have z_rh : (w.heap.size + 1) < we.heap.size := (by omega); replace rh : we.rangeAt (w.heap.size + 1) 0 [.int .i64 k0, .int .i64 i0, .int .i64 k1, .int .i64 i1] := rng
        have z_rr : (w.heap.size + 1 + 1) < we.heap.size := (by omega); replace rr : we.rangeAt (w.heap.size + 1 + 1) 0 [.int .i64 0, .int .i64 0, .int .i64 0, .int .i64 0] := rng; replace f_rr : Free we (w.heap.size + 1 + 1) := fre
        have z_rf : (wb.heap.size) < we.heap.size := (by omega); replace rf : we.rangeAt (wb.heap.size) 0 [.int .i64 sk, .int .i64 si] := rng
        clear hb
        replace rx_0 := range_cell rx 0 rfl; replace rx_1 := range_cell rx 1 rfl; replace rx_2 := range_cell rx 2 rfl; replace rx_3 := range_cell rx 3 rfl
        replace rx_f0 := f_rx 0; replace rx_f1 := f_rx 1; replace rx_f2 := f_rx 2; replace rx_f3 := f_rx 3
        replace rh_0 := range_cell rh 0 rfl; replace rh_1 := range_cell rh 1 rfl; replace rh_2 := range_cell rh 2 rfl; replace rh_3 := range_cell rh 3 rfl
        replace rr_0 := range_cell rr 0 rfl; replace rr_1 := range_cell rr 1 rfl; replace rr_2 := range_cell rr 2 rfl; replace rr_3 := range_cell rr 3 rfl
        replace rr_f0 := f_rr 0; replace rr_f1 := f_rr 1; replace rr_f2 := f_rr 2; replace rr_f3 := f_rr 3
        replace rf_0 := range_cell rf 0 rfl; replace rf_1 := range_cell rf 1 rfl
        have := HB5.out
        go_wp2
        refine bodyPost_ret (ret_cell_tmp Try.results10 (w.heap.size + 1 + 1) [.int .i64 i, .int .i64 2, .int .i64 0, .int .i64 0] _ rfl rng Try.underlying23 rfl (by kernel_rfl)) rfl ⟨rfl, ?_⟩; exact bel
      · have hs2 : (sk == 1) = false := by simp [hs]
        rw [hs2, show Act.val (Act.listen n i c p false d1 false false) = .agg #[.int .i64 i, .int .i64 1, .int .i64 (Act.up c), .int .i64 p] from rfl]
        go_enter Try.func10, Try.ntmps10
        go_wp2_with fail
        refine (refNright_any _ _ _ _ _ _).mono ?_; rintro e wa ⟨rfl, hb⟩; have hz := hb.size; (try simp only [World.size_alloc, World.heap_drewN, World.size_drew, World.size_setCell] at hz)
        rw [HH.out]
        have HB1 := Lib.hid (show Below w.heap.size w wa from bel)
        have z_rx : (w.heap.size) < wa.heap.size := (by omega); replace rx : wa.rangeAt (w.heap.size) 0 [.int .i64 i, .int .i64 1, .int .i64 c, .int .i64 p] := rng; replace f_rx : Free wa (w.heap.size) := fre
        have z_rh : (w.heap.size + 1) < wa.heap.size := (by omega); replace rh : wa.rangeAt (w.heap.size + 1) 0 [.int .i64 k0, .int .i64 i0, .int .i64 k1, .int .i64 i1] := rng
        have z_rr : (w.heap.size + 1 + 1) < wa.heap.size := (by omega); replace rr : wa.rangeAt (w.heap.size + 1 + 1) 0 [.int .i64 0, .int .i64 0, .int .i64 0, .int .i64 0] := rng; replace f_rr : Free wa (w.heap.size + 1 + 1) := fre
        clear hb
        replace rx_0 := range_cell rx 0 rfl; replace rx_1 := range_cell rx 1 rfl; replace rx_2 := range_cell rx 2 rfl; replace rx_3 := range_cell rx 3 rfl
        replace rx_f0 := f_rx 0; replace rx_f1 := f_rx 1; replace rx_f2 := f_rx 2; replace rx_f3 := f_rx 3
        replace rh_0 := range_cell rh 0 rfl; replace rh_1 := range_cell rh 1 rfl; replace rh_2 := range_cell rh 2 rfl; replace rh_3 := range_cell rh 3 rfl
        replace rr_0 := range_cell rr 0 rfl; replace rr_1 := range_cell rr 1 rfl; replace rr_2 := range_cell rr 2 rfl; replace rr_3 := range_cell rr 3 rfl
        replace rr_f0 := f_rr 0; replace rr_f1 := f_rr 1; replace rr_f2 := f_rr 2; replace rr_f3 := f_rr 3
        go_wp2_with fail
        refine (CS.out _).mono ?_; rintro e wb ⟨rfl, hb⟩; have hz := hb.size; (try simp only [World.size_alloc, World.heap_drewN, World.size_drew, World.size_setCell] at hz)
        have HB2 := Lib.hid (show Below w.heap.size w wb from by have := HB1.out; exact bel)
        have z_rx : (w.heap.size) < wb.heap.size := (by omega); replace rx : wb.rangeAt (w.heap.size) 0 [.int .i64 i, .int .i64 1, .int .i64 c, .int .i64 p] := rng; replace f_rx : Free wb (w.heap.size) := fre
        have z_rh : (w.heap.size + 1) < wb.heap.size := (by omega); replace rh : wb.rangeAt (w.heap.size + 1) 0 [.int .i64 k0, .int .i64 i0, .int .i64 k1, .int .i64 i1] := rng
        have z_rr : (w.heap.size + 1 + 1) < wb.heap.size := (by omega); replace rr : wb.rangeAt (w.heap.size + 1 + 1) 0 [.int .i64 0, .int .i64 0, .int .i64 0, .int .i64 0] := rng; replace f_rr : Free wb (w.heap.size + 1 + 1) := fre
        clear hb
        replace rx_0 := range_cell rx 0 rfl; replace rx_1 := range_cell rx 1 rfl; replace rx_2 := range_cell rx 2 rfl; replace rx_3 := range_cell rx 3 rfl
        replace rx_f0 := f_rx 0; replace rx_f1 := f_rx 1; replace rx_f2 := f_rx 2; replace rx_f3 := f_rx 3
        replace rh_0 := range_cell rh 0 rfl; replace rh_1 := range_cell rh 1 rfl; replace rh_2 := range_cell rh 2 rfl; replace rh_3 := range_cell rh 3 rfl
        replace rr_0 := range_cell rr 0 rfl; replace rr_1 := range_cell rr 1 rfl; replace rr_2 := range_cell rr 2 rfl; replace rr_3 := range_cell rr 3 rfl
        replace rr_f0 := f_rr 0; replace rr_f1 := f_rr 1; replace rr_f2 := f_rr 2; replace rr_f3 := f_rr 3
        go_wp2_with fail
        refine (CI.out _).mono ?_; rintro e wc ⟨rfl, hb⟩; have hz := hb.size; (try simp only [World.size_alloc, World.heap_drewN, World.size_drew, World.size_setCell] at hz)
        have HB3 := Lib.hid (show Below w.heap.size w wc from by have := HB2.out; exact bel)
        have z_rx : (w.heap.size) < wc.heap.size := (by omega); replace rx : wc.rangeAt (w.heap.size) 0 [.int .i64 i, .int .i64 1, .int .i64 c, .int .i64 p] := rng; replace f_rx : Free wc (w.heap.size) := fre
        have z_rh : (w.heap.size + 1) < wc.heap.size := (by omega); replace rh : wc.rangeAt (w.heap.size + 1) 0 [.int .i64 k0, .int .i64 i0, .int .i64 k1, .int .i64 i1] := rng
        have z_rr : (w.heap.size + 1 + 1) < wc.heap.size := (by omega); replace rr : wc.rangeAt (w.heap.size + 1 + 1) 0 [.int .i64 0, .int .i64 0, .int .i64 0, .int .i64 0] := rng; replace f_rr : Free wc (w.heap.size + 1 + 1) := fre
        have z_rf : (wb.heap.size) < wc.heap.size := (by omega); replace rf : wc.rangeAt (wb.heap.size) 0 [.int .i64 sk, .int .i64 si] := rng
        clear hb
        replace rx_0 := range_cell rx 0 rfl; replace rx_1 := range_cell rx 1 rfl; replace rx_2 := range_cell rx 2 rfl; replace rx_3 := range_cell rx 3 rfl
        replace rx_f0 := f_rx 0; replace rx_f1 := f_rx 1; replace rx_f2 := f_rx 2; replace rx_f3 := f_rx 3
        replace rh_0 := range_cell rh 0 rfl; replace rh_1 := range_cell rh 1 rfl; replace rh_2 := range_cell rh 2 rfl; replace rh_3 := range_cell rh 3 rfl
        replace rr_0 := range_cell rr 0 rfl; replace rr_1 := range_cell rr 1 rfl; replace rr_2 := range_cell rr 2 rfl; replace rr_3 := range_cell rr 3 rfl
        replace rr_f0 := f_rr 0; replace rr_f1 := f_rr 1; replace rr_f2 := f_rr 2; replace rr_f3 := f_rr 3
        replace rf_0 := range_cell rf 0 rfl; replace rf_1 := range_cell rf 1 rfl
        go_wp2_with fail
        refine (CO.out _).mono ?_; rintro e wd ⟨rfl, hb⟩; have hz := hb.size; (try simp only [World.size_alloc, World.heap_drewN, World.size_drew, World.size_setCell] at hz)
        have HB4 := Lib.hid (show Below w.heap.size w wd from by have := HB3.out; exact bel)
        have z_rx : (w.heap.size) < wd.heap.size := (by omega); replace rx : wd.rangeAt (w.heap.size) 0 [.int .i64 i, .int .i64 1, .int .i64 c, .int .i64 p] := rng; replace f_rx : Free wd (w.heap.size) := fre
        have z_rh : (w.heap.size + 1) < wd.heap.size := (by omega); replace rh : wd.rangeAt (w.heap.size + 1) 0 [.int .i64 k0, .int .i64 i0, .int .i64 k1, .int .i64 i1] := rng
        have z_rr : (w.heap.size + 1 + 1) < wd.heap.size := (by omega); replace rr : wd.rangeAt (w.heap.size + 1 + 1) 0 [.int .i64 0, .int .i64 0, .int .i64 0, .int .i64 0] := rng; replace f_rr : Free wd (w.heap.size + 1 + 1) := fre
        have z_rf : (wb.heap.size) < wd.heap.size := (by omega); replace rf : wd.rangeAt (wb.heap.size) 0 [.int .i64 sk, .int .i64 si] := rng
        clear hb
        replace rx_0 := range_cell rx 0 rfl; replace rx_1 := range_cell rx 1 rfl; replace rx_2 := range_cell rx 2 rfl; replace rx_3 := range_cell rx 3 rfl
        replace rx_f0 := f_rx 0; replace rx_f1 := f_rx 1; replace rx_f2 := f_rx 2; replace rx_f3 := f_rx 3
        replace rh_0 := range_cell rh 0 rfl; replace rh_1 := range_cell rh 1 rfl; replace rh_2 := range_cell rh 2 rfl; replace rh_3 := range_cell rh 3 rfl
        replace rr_0 := range_cell rr 0 rfl; replace rr_1 := range_cell rr 1 rfl; replace rr_2 := range_cell rr 2 rfl; replace rr_3 := range_cell rr 3 rfl
        replace rr_f0 := f_rr 0; replace rr_f1 := f_rr 1; replace rr_f2 := f_rr 2; replace rr_f3 := f_rr 3
        replace rf_0 := range_cell rf 0 rfl; replace rf_1 := range_cell rf 1 rfl
        go_wp2_with fail
        refine (refAup_any i 1 c p hc _).mono ?_; rintro e we ⟨rfl, hb⟩; have hz := hb.size; (try simp only [World.size_alloc, World.heap_drewN, World.size_drew, World.size_setCell] at hz)
        have HB5 := Lib.hid (show Below w.heap.size w we from by have := HB4.out; exact bel)
        have z_rx : (w.heap.size) < we.heap.size := (by omega); replace rx : we.rangeAt (w.heap.size) 0 [.int .i64 i, .int .i64 1, .int .i64 c, .int .i64 p] := rng; replace f_rx : Free we (w.heap.size) := fre
        have z_rh : (w.heap.size + 1) < we.heap.size := (by omega); replace rh : we.rangeAt (w.heap.size + 1) 0 [.int .i64 k0, .int .i64 i0, .int .i64 k1, .int .i64 i1] := rng
        have z_rr : (w.heap.size + 1 + 1) < we.heap.size := (by omega); replace rr : we.rangeAt (w.heap.size + 1 + 1) 0 [.int .i64 0, .int .i64 0, .int .i64 0, .int .i64 0] := rng; replace f_rr : Free we (w.heap.size + 1 + 1) := fre
        have z_rf : (wb.heap.size) < we.heap.size := (by omega); replace rf : we.rangeAt (wb.heap.size) 0 [.int .i64 sk, .int .i64 si] := rng
        clear hb
        replace rx_0 := range_cell rx 0 rfl; replace rx_1 := range_cell rx 1 rfl; replace rx_2 := range_cell rx 2 rfl; replace rx_3 := range_cell rx 3 rfl
        replace rx_f0 := f_rx 0; replace rx_f1 := f_rx 1; replace rx_f2 := f_rx 2; replace rx_f3 := f_rx 3
        replace rh_0 := range_cell rh 0 rfl; replace rh_1 := range_cell rh 1 rfl; replace rh_2 := range_cell rh 2 rfl; replace rh_3 := range_cell rh 3 rfl
        replace rr_0 := range_cell rr 0 rfl; replace rr_1 := range_cell rr 1 rfl; replace rr_2 := range_cell rr 2 rfl; replace rr_3 := range_cell rr 3 rfl
        replace rr_f0 := f_rr 0; replace rr_f1 := f_rr 1; replace rr_f2 := f_rr 2; replace rr_f3 := f_rr 3
        replace rf_0 := range_cell rf 0 rfl; replace rf_1 := range_cell rf 1 rfl
        have := HB5.out
        go_wp2
        refine bodyPost_ret (ret_cell_tmp Try.results10 (w.heap.size + 1 + 1) [.int .i64 i, .int .i64 1, .int .i64 (Act.up c), .int .i64 p] _ rfl rng Try.underlying23 rfl (by kernel_rfl)) rfl ⟨rfl, ?_⟩; exact bel
    · rw [show Act.val (Act.listen n i c p false d1 true (sk == 1)) = .agg #[.int .i64 i, .int .i64 2, .int .i64 0, .int .i64 0] from by unfold Act.listen; simp [Act.val]]
      by_cases hs : sk = 1
      · have hs2 : (sk == 1) = true := (by simp [hs]); clear hs
        go_enter Try.func10, Try.ntmps10
        go_wp2_with fail
        refine (refNright_any _ _ _ _ _ _).mono ?_; rintro e wa ⟨rfl, hb⟩; have hz := hb.size; (try simp only [World.size_alloc, World.heap_drewN, World.size_drew, World.size_setCell] at hz)
        rw [HH.out]
        have HB1 := Lib.hid (show Below w.heap.size w wa from bel)
        have z_rx : (w.heap.size) < wa.heap.size := (by omega); replace rx : wa.rangeAt (w.heap.size) 0 [.int .i64 i, .int .i64 1, .int .i64 c, .int .i64 p] := rng; replace f_rx : Free wa (w.heap.size) := fre
        have z_rh : (w.heap.size + 1) < wa.heap.size := (by omega); replace rh : wa.rangeAt (w.heap.size + 1) 0 [.int .i64 k0, .int .i64 i0, .int .i64 k1, .int .i64 i1] := rng
        have z_rr : (w.heap.size + 1 + 1) < wa.heap.size := (by omega); replace rr : wa.rangeAt (w.heap.size + 1 + 1) 0 [.int .i64 0, .int .i64 0, .int .i64 0, .int .i64 0] := rng; replace f_rr : Free wa (w.heap.size + 1 + 1) := fre
        clear hb
        replace rx_0 := range_cell rx 0 rfl; replace rx_1 := range_cell rx 1 rfl; replace rx_2 := range_cell rx 2 rfl; replace rx_3 := range_cell rx 3 rfl
        replace rx_f0 := f_rx 0; replace rx_f1 := f_rx 1; replace rx_f2 := f_rx 2; replace rx_f3 := f_rx 3
        replace rh_0 := range_cell rh 0 rfl; replace rh_1 := range_cell rh 1 rfl; replace rh_2 := range_cell rh 2 rfl; replace rh_3 := range_cell rh 3 rfl
        replace rr_0 := range_cell rr 0 rfl; replace rr_1 := range_cell rr 1 rfl; replace rr_2 := range_cell rr 2 rfl; replace rr_3 := range_cell rr 3 rfl
        replace rr_f0 := f_rr 0; replace rr_f1 := f_rr 1; replace rr_f2 := f_rr 2; replace rr_f3 := f_rr 3
        go_wp2_with fail
        refine (CS.out _).mono ?_; rintro e wb ⟨rfl, hb⟩; have hz := hb.size; (try simp only [World.size_alloc, World.heap_drewN, World.size_drew, World.size_setCell] at hz)
        have HB2 := Lib.hid (show Below w.heap.size w wb from by have := HB1.out; exact bel)
        have z_rx : (w.heap.size) < wb.heap.size := (by omega); replace rx : wb.rangeAt (w.heap.size) 0 [.int .i64 i, .int .i64 1, .int .i64 c, .int .i64 p] := rng; replace f_rx : Free wb (w.heap.size) := fre
        have z_rh : (w.heap.size + 1) < wb.heap.size := (by omega); replace rh : wb.rangeAt (w.heap.size + 1) 0 [.int .i64 k0, .int .i64 i0, .int .i64 k1, .int .i64 i1] := rng
        have z_rr : (w.heap.size + 1 + 1) < wb.heap.size := (by omega); replace rr : wb.rangeAt (w.heap.size + 1 + 1) 0 [.int .i64 0, .int .i64 0, .int .i64 0, .int .i64 0] := rng; replace f_rr : Free wb (w.heap.size + 1 + 1) := fre
        clear hb
        replace rx_0 := range_cell rx 0 rfl; replace rx_1 := range_cell rx 1 rfl; replace rx_2 := range_cell rx 2 rfl; replace rx_3 := range_cell rx 3 rfl
        replace rx_f0 := f_rx 0; replace rx_f1 := f_rx 1; replace rx_f2 := f_rx 2; replace rx_f3 := f_rx 3
        replace rh_0 := range_cell rh 0 rfl; replace rh_1 := range_cell rh 1 rfl; replace rh_2 := range_cell rh 2 rfl; replace rh_3 := range_cell rh 3 rfl
        replace rr_0 := range_cell rr 0 rfl; replace rr_1 := range_cell rr 1 rfl; replace rr_2 := range_cell rr 2 rfl; replace rr_3 := range_cell rr 3 rfl
        replace rr_f0 := f_rr 0; replace rr_f1 := f_rr 1; replace rr_f2 := f_rr 2; replace rr_f3 := f_rr 3
        go_wp2_with fail
        refine (CI.out _).mono ?_; rintro e wc ⟨rfl, hb⟩; have hz := hb.size; (try simp only [World.size_alloc, World.heap_drewN, World.size_drew, World.size_setCell] at hz)
        have HB3 := Lib.hid (show Below w.heap.size w wc from by have := HB2.out; exact bel)
        have z_rx : (w.heap.size) < wc.heap.size := (by omega); replace rx : wc.rangeAt (w.heap.size) 0 [.int .i64 i, .int .i64 1, .int .i64 c, .int .i64 p] := rng; replace f_rx : Free wc (w.heap.size) := fre
        have z_rh : (w.heap.size + 1) < wc.heap.size := (by omega); replace rh : wc.rangeAt (w.heap.size + 1) 0 [.int .i64 k0, .int .i64 i0, .int .i64 k1, .int .i64 i1] := rng
        have z_rr : (w.heap.size + 1 + 1) < wc.heap.size := (by omega); replace rr : wc.rangeAt (w.heap.size + 1 + 1) 0 [.int .i64 0, .int .i64 0, .int .i64 0, .int .i64 0] := rng; replace f_rr : Free wc (w.heap.size + 1 + 1) := fre
        have z_rf : (wb.heap.size) < wc.heap.size := (by omega); replace rf : wc.rangeAt (wb.heap.size) 0 [.int .i64 sk, .int .i64 si] := rng
        clear hb
        replace rx_0 := range_cell rx 0 rfl; replace rx_1 := range_cell rx 1 rfl; replace rx_2 := range_cell rx 2 rfl; replace rx_3 := range_cell rx 3 rfl
        replace rx_f0 := f_rx 0; replace rx_f1 := f_rx 1; replace rx_f2 := f_rx 2; replace rx_f3 := f_rx 3
        replace rh_0 := range_cell rh 0 rfl; replace rh_1 := range_cell rh 1 rfl; replace rh_2 := range_cell rh 2 rfl; replace rh_3 := range_cell rh 3 rfl
        replace rr_0 := range_cell rr 0 rfl; replace rr_1 := range_cell rr 1 rfl; replace rr_2 := range_cell rr 2 rfl; replace rr_3 := range_cell rr 3 rfl
        replace rr_f0 := f_rr 0; replace rr_f1 := f_rr 1; replace rr_f2 := f_rr 2; replace rr_f3 := f_rr 3
        replace rf_0 := range_cell rf 0 rfl; replace rf_1 := range_cell rf 1 rfl
        go_wp2_with fail
        refine (CO.out _).mono ?_; rintro e wd ⟨rfl, hb⟩; have hz := hb.size; (try simp only [World.size_alloc, World.heap_drewN, World.size_drew, World.size_setCell] at hz)
        have HB4 := Lib.hid (show Below w.heap.size w wd from by have := HB3.out; exact bel)
        have z_rx : (w.heap.size) < wd.heap.size := (by omega); replace rx : wd.rangeAt (w.heap.size) 0 [.int .i64 i, .int .i64 1, .int .i64 c, .int .i64 p] := rng; replace f_rx : Free wd (w.heap.size) := fre
        have z_rh : (w.heap.size + 1) < wd.heap.size := (by omega); replace rh : wd.rangeAt (w.heap.size + 1) 0 [.int .i64 k0, .int .i64 i0, .int .i64 k1, .int .i64 i1] := rng
        have z_rr : (w.heap.size + 1 + 1) < wd.heap.size := (by omega); replace rr : wd.rangeAt (w.heap.size + 1 + 1) 0 [.int .i64 0, .int .i64 0, .int .i64 0, .int .i64 0] := rng; replace f_rr : Free wd (w.heap.size + 1 + 1) := fre
        have z_rf : (wb.heap.size) < wd.heap.size := (by omega); replace rf : wd.rangeAt (wb.heap.size) 0 [.int .i64 sk, .int .i64 si] := rng
        clear hb
        replace rx_0 := range_cell rx 0 rfl; replace rx_1 := range_cell rx 1 rfl; replace rx_2 := range_cell rx 2 rfl; replace rx_3 := range_cell rx 3 rfl
        replace rx_f0 := f_rx 0; replace rx_f1 := f_rx 1; replace rx_f2 := f_rx 2; replace rx_f3 := f_rx 3
        replace rh_0 := range_cell rh 0 rfl; replace rh_1 := range_cell rh 1 rfl; replace rh_2 := range_cell rh 2 rfl; replace rh_3 := range_cell rh 3 rfl
        replace rr_0 := range_cell rr 0 rfl; replace rr_1 := range_cell rr 1 rfl; replace rr_2 := range_cell rr 2 rfl; replace rr_3 := range_cell rr 3 rfl
        replace rr_f0 := f_rr 0; replace rr_f1 := f_rr 1; replace rr_f2 := f_rr 2; replace rr_f3 := f_rr 3
        replace rf_0 := range_cell rf 0 rfl; replace rf_1 := range_cell rf 1 rfl
        go_wp2_with fail
        refine (refTo_any _ _ _ _ _ _ _).mono ?_; rintro e we ⟨rfl, hb⟩; have hz := hb.size; (try simp only [World.size_alloc, World.heap_drewN, World.size_drew, World.size_setCell] at hz)
        have HB5 := Lib.hid (show Below w.heap.size w we from by have := HB4.out; exact bel)
        have z_rx : (w.heap.size) < we.heap.size := (by omega); replace rx : we.rangeAt (w.heap.size) 0 [.int .i64 i, .int .i64 1, .int .i64 c, .int .i64 p] := rng; replace f_rx : Free we (w.heap.size) := fre
        have z_rh : (w.heap.size + 1) < we.heap.size := (by omega); replace rh : we.rangeAt (w.heap.size + 1) 0 [.int .i64 k0, .int .i64 i0, .int .i64 k1, .int .i64 i1] := rng
        have z_rr : (w.heap.size + 1 + 1) < we.heap.size := (by omega); replace rr : we.rangeAt (w.heap.size + 1 + 1) 0 [.int .i64 0, .int .i64 0, .int .i64 0, .int .i64 0] := rng; replace f_rr : Free we (w.heap.size + 1 + 1) := fre
        have z_rf : (wb.heap.size) < we.heap.size := (by omega); replace rf : we.rangeAt (wb.heap.size) 0 [.int .i64 sk, .int .i64 si] := rng
        clear hb
        replace rx_0 := range_cell rx 0 rfl; replace rx_1 := range_cell rx 1 rfl; replace rx_2 := range_cell rx 2 rfl; replace rx_3 := range_cell rx 3 rfl
        replace rx_f0 := f_rx 0; replace rx_f1 := f_rx 1; replace rx_f2 := f_rx 2; replace rx_f3 := f_rx 3
        replace rh_0 := range_cell rh 0 rfl; replace rh_1 := range_cell rh 1 rfl; replace rh_2 := range_cell rh 2 rfl; replace rh_3 := range_cell rh 3 rfl
        replace rr_0 := range_cell rr 0 rfl; replace rr_1 := range_cell rr 1 rfl; replace rr_2 := range_cell rr 2 rfl; replace rr_3 := range_cell rr 3 rfl
        replace rr_f0 := f_rr 0; replace rr_f1 := f_rr 1; replace rr_f2 := f_rr 2; replace rr_f3 := f_rr 3
        replace rf_0 := range_cell rf 0 rfl; replace rf_1 := range_cell rf 1 rfl
        have := HB5.out
        go_wp2
        refine bodyPost_ret (ret_cell_tmp Try.results10 (w.heap.size + 1 + 1) [.int .i64 i, .int .i64 2, .int .i64 0, .int .i64 0] _ rfl rng Try.underlying23 rfl (by kernel_rfl)) rfl ⟨rfl, ?_⟩; exact bel
      · have hs2 : (sk == 1) = false := by simp [hs]
        go_enter Try.func10, Try.ntmps10
        go_wp2_with fail
        refine (refNright_any _ _ _ _ _ _).mono ?_; rintro e wa ⟨rfl, hb⟩; have hz := hb.size; (try simp only [World.size_alloc, World.heap_drewN, World.size_drew, World.size_setCell] at hz)
        rw [HH.out]
        have HB1 := Lib.hid (show Below w.heap.size w wa from bel)
        have z_rx : (w.heap.size) < wa.heap.size := (by omega); replace rx : wa.rangeAt (w.heap.size) 0 [.int .i64 i, .int .i64 1, .int .i64 c, .int .i64 p] := rng; replace f_rx : Free wa (w.heap.size) := fre
        have z_rh : (w.heap.size + 1) < wa.heap.size := (by omega); replace rh : wa.rangeAt (w.heap.size + 1) 0 [.int .i64 k0, .int .i64 i0, .int .i64 k1, .int .i64 i1] := rng
        have z_rr : (w.heap.size + 1 + 1) < wa.heap.size := (by omega); replace rr : wa.rangeAt (w.heap.size + 1 + 1) 0 [.int .i64 0, .int .i64 0, .int .i64 0, .int .i64 0] := rng; replace f_rr : Free wa (w.heap.size + 1 + 1) := fre
        clear hb
        replace rx_0 := range_cell rx 0 rfl; replace rx_1 := range_cell rx 1 rfl; replace rx_2 := range_cell rx 2 rfl; replace rx_3 := range_cell rx 3 rfl
        replace rx_f0 := f_rx 0; replace rx_f1 := f_rx 1; replace rx_f2 := f_rx 2; replace rx_f3 := f_rx 3
        replace rh_0 := range_cell rh 0 rfl; replace rh_1 := range_cell rh 1 rfl; replace rh_2 := range_cell rh 2 rfl; replace rh_3 := range_cell rh 3 rfl
        replace rr_0 := range_cell rr 0 rfl; replace rr_1 := range_cell rr 1 rfl; replace rr_2 := range_cell rr 2 rfl; replace rr_3 := range_cell rr 3 rfl
        replace rr_f0 := f_rr 0; replace rr_f1 := f_rr 1; replace rr_f2 := f_rr 2; replace rr_f3 := f_rr 3
        go_wp2_with fail
        refine (CS.out _).mono ?_; rintro e wb ⟨rfl, hb⟩; have hz := hb.size; (try simp only [World.size_alloc, World.heap_drewN, World.size_drew, World.size_setCell] at hz)
        have HB2 := Lib.hid (show Below w.heap.size w wb from by have := HB1.out; exact bel)
        have z_rx : (w.heap.size) < wb.heap.size := (by omega); replace rx : wb.rangeAt (w.heap.size) 0 [.int .i64 i, .int .i64 1, .int .i64 c, .int .i64 p] := rng; replace f_rx : Free wb (w.heap.size) := fre
        have z_rh : (w.heap.size + 1) < wb.heap.size := (by omega); replace rh : wb.rangeAt (w.heap.size + 1) 0 [.int .i64 k0, .int .i64 i0, .int .i64 k1, .int .i64 i1] := rng
        have z_rr : (w.heap.size + 1 + 1) < wb.heap.size := (by omega); replace rr : wb.rangeAt (w.heap.size + 1 + 1) 0 [.int .i64 0, .int .i64 0, .int .i64 0, .int .i64 0] := rng; replace f_rr : Free wb (w.heap.size + 1 + 1) := fre
        clear hb
        replace rx_0 := range_cell rx 0 rfl; replace rx_1 := range_cell rx 1 rfl; replace rx_2 := range_cell rx 2 rfl; replace rx_3 := range_cell rx 3 rfl
        replace rx_f0 := f_rx 0; replace rx_f1 := f_rx 1; replace rx_f2 := f_rx 2; replace rx_f3 := f_rx 3
        replace rh_0 := range_cell rh 0 rfl; replace rh_1 := range_cell rh 1 rfl; replace rh_2 := range_cell rh 2 rfl; replace rh_3 := range_cell rh 3 rfl
        replace rr_0 := range_cell rr 0 rfl; replace rr_1 := range_cell rr 1 rfl; replace rr_2 := range_cell rr 2 rfl; replace rr_3 := range_cell rr 3 rfl
        replace rr_f0 := f_rr 0; replace rr_f1 := f_rr 1; replace rr_f2 := f_rr 2; replace rr_f3 := f_rr 3
        go_wp2_with fail
        refine (CI.out _).mono ?_; rintro e wc ⟨rfl, hb⟩; have hz := hb.size; (try simp only [World.size_alloc, World.heap_drewN, World.size_drew, World.size_setCell] at hz)
        have HB3 := Lib.hid (show Below w.heap.size w wc from by have := HB2.out; exact bel)
        have z_rx : (w.heap.size) < wc.heap.size := (by omega); replace rx : wc.rangeAt (w.heap.size) 0 [.int .i64 i, .int .i64 1, .int .i64 c, .int .i64 p] := rng; replace f_rx : Free wc (w.heap.size) := fre
        have z_rh : (w.heap.size + 1) < wc.heap.size := (by omega); replace rh : wc.rangeAt (w.heap.size + 1) 0 [.int .i64 k0, .int .i64 i0, .int .i64 k1, .int .i64 i1] := rng
        have z_rr : (w.heap.size + 1 + 1) < wc.heap.size := (by omega); replace rr : wc.rangeAt (w.heap.size + 1 + 1) 0 [.int .i64 0, .int .i64 0, .int .i64 0, .int .i64 0] := rng; replace f_rr : Free wc (w.heap.size + 1 + 1) := fre
        have z_rf : (wb.heap.size) < wc.heap.size := (by omega); replace rf : wc.rangeAt (wb.heap.size) 0 [.int .i64 sk, .int .i64 si] := rng
        clear hb
        replace rx_0 := range_cell rx 0 rfl; replace rx_1 := range_cell rx 1 rfl; replace rx_2 := range_cell rx 2 rfl; replace rx_3 := range_cell rx 3 rfl
        replace rx_f0 := f_rx 0; replace rx_f1 := f_rx 1; replace rx_f2 := f_rx 2; replace rx_f3 := f_rx 3
        replace rh_0 := range_cell rh 0 rfl; replace rh_1 := range_cell rh 1 rfl; replace rh_2 := range_cell rh 2 rfl; replace rh_3 := range_cell rh 3 rfl
        replace rr_0 := range_cell rr 0 rfl; replace rr_1 := range_cell rr 1 rfl; replace rr_2 := range_cell rr 2 rfl; replace rr_3 := range_cell rr 3 rfl
        replace rr_f0 := f_rr 0; replace rr_f1 := f_rr 1; replace rr_f2 := f_rr 2; replace rr_f3 := f_rr 3
        replace rf_0 := range_cell rf 0 rfl; replace rf_1 := range_cell rf 1 rfl
        go_wp2_with fail
        refine (CO.out _).mono ?_; rintro e wd ⟨rfl, hb⟩; have hz := hb.size; (try simp only [World.size_alloc, World.heap_drewN, World.size_drew, World.size_setCell] at hz)
        have HB4 := Lib.hid (show Below w.heap.size w wd from by have := HB3.out; exact bel)
        have z_rx : (w.heap.size) < wd.heap.size := (by omega); replace rx : wd.rangeAt (w.heap.size) 0 [.int .i64 i, .int .i64 1, .int .i64 c, .int .i64 p] := rng; replace f_rx : Free wd (w.heap.size) := fre
        have z_rh : (w.heap.size + 1) < wd.heap.size := (by omega); replace rh : wd.rangeAt (w.heap.size + 1) 0 [.int .i64 k0, .int .i64 i0, .int .i64 k1, .int .i64 i1] := rng
        have z_rr : (w.heap.size + 1 + 1) < wd.heap.size := (by omega); replace rr : wd.rangeAt (w.heap.size + 1 + 1) 0 [.int .i64 0, .int .i64 0, .int .i64 0, .int .i64 0] := rng; replace f_rr : Free wd (w.heap.size + 1 + 1) := fre
        have z_rf : (wb.heap.size) < wd.heap.size := (by omega); replace rf : wd.rangeAt (wb.heap.size) 0 [.int .i64 sk, .int .i64 si] := rng
        clear hb
        replace rx_0 := range_cell rx 0 rfl; replace rx_1 := range_cell rx 1 rfl; replace rx_2 := range_cell rx 2 rfl; replace rx_3 := range_cell rx 3 rfl
        replace rx_f0 := f_rx 0; replace rx_f1 := f_rx 1; replace rx_f2 := f_rx 2; replace rx_f3 := f_rx 3
        replace rh_0 := range_cell rh 0 rfl; replace rh_1 := range_cell rh 1 rfl; replace rh_2 := range_cell rh 2 rfl; replace rh_3 := range_cell rh 3 rfl
        replace rr_0 := range_cell rr 0 rfl; replace rr_1 := range_cell rr 1 rfl; replace rr_2 := range_cell rr 2 rfl; replace rr_3 := range_cell rr 3 rfl
        replace rr_f0 := f_rr 0; replace rr_f1 := f_rr 1; replace rr_f2 := f_rr 2; replace rr_f3 := f_rr 3
        replace rf_0 := range_cell rf 0 rfl; replace rf_1 := range_cell rf 1 rfl
        go_wp2_with fail
        refine (refTo_any _ _ _ _ _ _ _).mono ?_; rintro e we ⟨rfl, hb⟩; have hz := hb.size; (try simp only [World.size_alloc, World.heap_drewN, World.size_drew, World.size_setCell] at hz)
        have HB5 := Lib.hid (show Below w.heap.size w we from by have := HB4.out; exact bel)
        have z_rx : (w.heap.size) < we.heap.size := (by omega); replace rx : we.rangeAt (w.heap.size) 0 [.int .i64 i, .int .i64 1, .int .i64 c, .int .i64 p] := rng; replace f_rx : Free we (w.heap.size) := fre
        have z_rh : (w.heap.size + 1) < we.heap.size := (by omega); replace rh : we.rangeAt (w.heap.size + 1) 0 [.int .i64 k0, .int .i64 i0, .int .i64 k1, .int .i64 i1] := rng
        have z_rr : (w.heap.size + 1 + 1) < we.heap.size := (by omega); replace rr : we.rangeAt (w.heap.size + 1 + 1) 0 [.int .i64 0, .int .i64 0, .int .i64 0, .int .i64 0] := rng; replace f_rr : Free we (w.heap.size + 1 + 1) := fre
        have z_rf : (wb.heap.size) < we.heap.size := (by omega); replace rf : we.rangeAt (wb.heap.size) 0 [.int .i64 sk, .int .i64 si] := rng
        clear hb
        replace rx_0 := range_cell rx 0 rfl; replace rx_1 := range_cell rx 1 rfl; replace rx_2 := range_cell rx 2 rfl; replace rx_3 := range_cell rx 3 rfl
        replace rx_f0 := f_rx 0; replace rx_f1 := f_rx 1; replace rx_f2 := f_rx 2; replace rx_f3 := f_rx 3
        replace rh_0 := range_cell rh 0 rfl; replace rh_1 := range_cell rh 1 rfl; replace rh_2 := range_cell rh 2 rfl; replace rh_3 := range_cell rh 3 rfl
        replace rr_0 := range_cell rr 0 rfl; replace rr_1 := range_cell rr 1 rfl; replace rr_2 := range_cell rr 2 rfl; replace rr_3 := range_cell rr 3 rfl
        replace rr_f0 := f_rr 0; replace rr_f1 := f_rr 1; replace rr_f2 := f_rr 2; replace rr_f3 := f_rr 3
        replace rf_0 := range_cell rf 0 rfl; replace rf_1 := range_cell rf 1 rfl
        have := HB5.out
        go_wp2
        refine bodyPost_ret (ret_cell_tmp Try.results10 (w.heap.size + 1 + 1) [.int .i64 i, .int .i64 2, .int .i64 0, .int .i64 0] _ rfl rng Try.underlying23 rfl (by kernel_rfl)) rfl ⟨rfl, ?_⟩; exact bel
  · have h1 := H1 rfl
    clear H1 H2
    rw [show Act.val (Act.listen n i c p true d1 b2 (sk == 1)) = .agg #[.int .i64 i, .int .i64 3, .int .i64 0, .int .i64 ((d1 + 1) % n)] from by unfold Act.listen; simp [Act.val]]
    go_enter Try.func10, Try.ntmps10
    go_wp2_with fail
    refine (refNright_any _ _ _ _ _ _).mono ?_; rintro e wa ⟨rfl, hb⟩; have hz := hb.size; (try simp only [World.size_alloc, World.heap_drewN, World.size_drew, World.size_setCell] at hz)
    rw [HH.out]
    have HB1 := Lib.hid (show Below w.heap.size w wa from bel)
    have z_rx : (w.heap.size) < wa.heap.size := (by omega); replace rx : wa.rangeAt (w.heap.size) 0 [.int .i64 i, .int .i64 1, .int .i64 c, .int .i64 p] := rng; replace f_rx : Free wa (w.heap.size) := fre
    have z_rh : (w.heap.size + 1) < wa.heap.size := (by omega); replace rh : wa.rangeAt (w.heap.size + 1) 0 [.int .i64 k0, .int .i64 i0, .int .i64 k1, .int .i64 i1] := rng
    have z_rr : (w.heap.size + 1 + 1) < wa.heap.size := (by omega); replace rr : wa.rangeAt (w.heap.size + 1 + 1) 0 [.int .i64 0, .int .i64 0, .int .i64 0, .int .i64 0] := rng; replace f_rr : Free wa (w.heap.size + 1 + 1) := fre
    clear hb
    replace rx_0 := range_cell rx 0 rfl; replace rx_1 := range_cell rx 1 rfl; replace rx_2 := range_cell rx 2 rfl; replace rx_3 := range_cell rx 3 rfl
    replace rx_f0 := f_rx 0; replace rx_f1 := f_rx 1; replace rx_f2 := f_rx 2; replace rx_f3 := f_rx 3
    replace rh_0 := range_cell rh 0 rfl; replace rh_1 := range_cell rh 1 rfl; replace rh_2 := range_cell rh 2 rfl; replace rh_3 := range_cell rh 3 rfl
    replace rr_0 := range_cell rr 0 rfl; replace rr_1 := range_cell rr 1 rfl; replace rr_2 := range_cell rr 2 rfl; replace rr_3 := range_cell rr 3 rfl
    replace rr_f0 := f_rr 0; replace rr_f1 := f_rr 1; replace rr_f2 := f_rr 2; replace rr_f3 := f_rr 3
    go_wp2_with fail
    refine (CS.out _).mono ?_; rintro e wb ⟨rfl, hb⟩; have hz := hb.size; (try simp only [World.size_alloc, World.heap_drewN, World.size_drew, World.size_setCell] at hz)
    have HB2 := Lib.hid (show Below w.heap.size w wb from by have := HB1.out; exact bel)
    have z_rx : (w.heap.size) < wb.heap.size := (by omega); replace rx : wb.rangeAt (w.heap.size) 0 [.int .i64 i, .int .i64 1, .int .i64 c, .int .i64 p] := rng; replace f_rx : Free wb (w.heap.size) := fre
    have z_rh : (w.heap.size + 1) < wb.heap.size := (by omega); replace rh : wb.rangeAt (w.heap.size + 1) 0 [.int .i64 k0, .int .i64 i0, .int .i64 k1, .int .i64 i1] := rng
    have z_rr : (w.heap.size + 1 + 1) < wb.heap.size := (by omega); replace rr : wb.rangeAt (w.heap.size + 1 + 1) 0 [.int .i64 0, .int .i64 0, .int .i64 0, .int .i64 0] := rng; replace f_rr : Free wb (w.heap.size + 1 + 1) := fre
    clear hb
    replace rx_0 := range_cell rx 0 rfl; replace rx_1 := range_cell rx 1 rfl; replace rx_2 := range_cell rx 2 rfl; replace rx_3 := range_cell rx 3 rfl
    replace rx_f0 := f_rx 0; replace rx_f1 := f_rx 1; replace rx_f2 := f_rx 2; replace rx_f3 := f_rx 3
    replace rh_0 := range_cell rh 0 rfl; replace rh_1 := range_cell rh 1 rfl; replace rh_2 := range_cell rh 2 rfl; replace rh_3 := range_cell rh 3 rfl
    replace rr_0 := range_cell rr 0 rfl; replace rr_1 := range_cell rr 1 rfl; replace rr_2 := range_cell rr 2 rfl; replace rr_3 := range_cell rr 3 rfl
    replace rr_f0 := f_rr 0; replace rr_f1 := f_rr 1; replace rr_f2 := f_rr 2; replace rr_f3 := f_rr 3
    go_wp2_with fail
    refine (CI.out _).mono ?_; rintro e wc ⟨rfl, hb⟩; have hz := hb.size; (try simp only [World.size_alloc, World.heap_drewN, World.size_drew, World.size_setCell] at hz)
    have HB3 := Lib.hid (show Below w.heap.size w wc from by have := HB2.out; exact bel)
    have z_rx : (w.heap.size) < wc.heap.size := (by omega); replace rx : wc.rangeAt (w.heap.size) 0 [.int .i64 i, .int .i64 1, .int .i64 c, .int .i64 p] := rng; replace f_rx : Free wc (w.heap.size) := fre
    have z_rh : (w.heap.size + 1) < wc.heap.size := (by omega); replace rh : wc.rangeAt (w.heap.size + 1) 0 [.int .i64 k0, .int .i64 i0, .int .i64 k1, .int .i64 i1] := rng
    have z_rr : (w.heap.size + 1 + 1) < wc.heap.size := (by omega); replace rr : wc.rangeAt (w.heap.size + 1 + 1) 0 [.int .i64 0, .int .i64 0, .int .i64 0, .int .i64 0] := rng; replace f_rr : Free wc (w.heap.size + 1 + 1) := fre
    have z_rf : (wb.heap.size) < wc.heap.size := (by omega); replace rf : wc.rangeAt (wb.heap.size) 0 [.int .i64 sk, .int .i64 si] := rng
    clear hb
    replace rx_0 := range_cell rx 0 rfl; replace rx_1 := range_cell rx 1 rfl; replace rx_2 := range_cell rx 2 rfl; replace rx_3 := range_cell rx 3 rfl
    replace rx_f0 := f_rx 0; replace rx_f1 := f_rx 1; replace rx_f2 := f_rx 2; replace rx_f3 := f_rx 3
    replace rh_0 := range_cell rh 0 rfl; replace rh_1 := range_cell rh 1 rfl; replace rh_2 := range_cell rh 2 rfl; replace rh_3 := range_cell rh 3 rfl
    replace rr_0 := range_cell rr 0 rfl; replace rr_1 := range_cell rr 1 rfl; replace rr_2 := range_cell rr 2 rfl; replace rr_3 := range_cell rr 3 rfl
    replace rr_f0 := f_rr 0; replace rr_f1 := f_rr 1; replace rr_f2 := f_rr 2; replace rr_f3 := f_rr 3
    replace rf_0 := range_cell rf 0 rfl; replace rf_1 := range_cell rf 1 rfl
    go_wp2_with fail
    refine (CO.out _).mono ?_; rintro e wd ⟨rfl, hb⟩; have hz := hb.size; (try simp only [World.size_alloc, World.heap_drewN, World.size_drew, World.size_setCell] at hz)
    have HB4 := Lib.hid (show Below w.heap.size w wd from by have := HB3.out; exact bel)
    have z_rx : (w.heap.size) < wd.heap.size := (by omega); replace rx : wd.rangeAt (w.heap.size) 0 [.int .i64 i, .int .i64 1, .int .i64 c, .int .i64 p] := rng; replace f_rx : Free wd (w.heap.size) := fre
    have z_rh : (w.heap.size + 1) < wd.heap.size := (by omega); replace rh : wd.rangeAt (w.heap.size + 1) 0 [.int .i64 k0, .int .i64 i0, .int .i64 k1, .int .i64 i1] := rng
    have z_rr : (w.heap.size + 1 + 1) < wd.heap.size := (by omega); replace rr : wd.rangeAt (w.heap.size + 1 + 1) 0 [.int .i64 0, .int .i64 0, .int .i64 0, .int .i64 0] := rng; replace f_rr : Free wd (w.heap.size + 1 + 1) := fre
    have z_rf : (wb.heap.size) < wd.heap.size := (by omega); replace rf : wd.rangeAt (wb.heap.size) 0 [.int .i64 sk, .int .i64 si] := rng
    clear hb
    replace rx_0 := range_cell rx 0 rfl; replace rx_1 := range_cell rx 1 rfl; replace rx_2 := range_cell rx 2 rfl; replace rx_3 := range_cell rx 3 rfl
    replace rx_f0 := f_rx 0; replace rx_f1 := f_rx 1; replace rx_f2 := f_rx 2; replace rx_f3 := f_rx 3
    replace rh_0 := range_cell rh 0 rfl; replace rh_1 := range_cell rh 1 rfl; replace rh_2 := range_cell rh 2 rfl; replace rh_3 := range_cell rh 3 rfl
    replace rr_0 := range_cell rr 0 rfl; replace rr_1 := range_cell rr 1 rfl; replace rr_2 := range_cell rr 2 rfl; replace rr_3 := range_cell rr 3 rfl
    replace rr_f0 := f_rr 0; replace rr_f1 := f_rr 1; replace rr_f2 := f_rr 2; replace rr_f3 := f_rr 3
    replace rf_0 := range_cell rf 0 rfl; replace rf_1 := range_cell rf 1 rfl
    go_wp2_with fail
    go_region_with (first | (go_at_call 21; refine (refNext_any n d1 (by omega) (by omega) h1.1 h1.2 _).mono ?_; rintro e w' ⟨rfl, rfl⟩) | (go_at_call 20; refine (refTo_any _ _ _ _ _ _ _).mono ?_; rintro e we ⟨rfl, hb⟩; have hz := hb.size; (try simp at hz); have HB5 := Lib.hid (show Below w.heap.size w we from by have := HB4.out; exact bel); have z_rr : (w.heap.size + 1 + 1) < we.heap.size := (by omega); replace rr : we.rangeAt (w.heap.size + 1 + 1) 0 [.int .i64 0, .int .i64 0, .int .i64 0, .int .i64 0] := rng; replace f_rr : Free we (w.heap.size + 1 + 1) := fre; clear hb; replace rr_0 := range_cell rr 0 rfl; replace rr_1 := range_cell rr 1 rfl; replace rr_2 := range_cell rr 2 rfl; replace rr_3 := range_cell rr 3 rfl; replace rr_f0 := f_rr 0; replace rr_f1 := f_rr 1; replace rr_f2 := f_rr 2; replace rr_f3 := f_rr 3))
    all_goals
      have := HB5.out
      go_wp2
      refine bodyPost_ret (ret_cell_tmp Try.results10 (w.heap.size + 1 + 1) [.int .i64 i, .int .i64 3, .int .i64 0, .int .i64 ((d1 + 1) % n)] _ rfl rng Try.underlying23 rfl (by kernel_rfl)) rfl ⟨rfl, ?_⟩; exact bel

set_option maxHeartbeats 2000000 in
theorem refStep_2 (n i c p k0 i0 k1 i1 : Int) (h : Node.right n i 2 c p = true) (hh : Act.heard n k0 i0 k1 i1 = true) (w : World) :
    Calls Try.prog 10 #[.int .i64 n, .agg #[.int .i64 i, .int .i64 2, .int .i64 c, .int .i64 p], .agg #[.int .i64 k0, .int .i64 i0, .int .i64 k1, .int .i64 i1]] w fun e w' => e = .returned (.tuple #[Act.val (Act.step n i 2 c p k0 i0 k1 i1), .int .i64 0]) ∧ Below w.heap.size w w' := by
  have hr := Say.right_of h
  have hn : 3 ≤ n ∧ n ≤ 8 := by omega
  have hc : 0 ≤ c ∧ c ≤ 1073741824 := by omega
  have H1 := Act.info_there hh
  have H2 := Act.other_there i hh
  have HH := Lib.hid h
  have CS := Lib.hid (fun w => refSayOf_any n i 2 c p w)
  have e3 : Say.err n i 2 c p = 0 := by unfold Say.err; rw [if_pos h]
  rw [e3] at CS
  have CI := Lib.hid (fun w => refInfo_any k0 i0 k1 i1 w)
  have CO := Lib.hid (fun w => refOther_any k0 i0 k1 i1 i w)
  rw [show Act.step n i 2 c p k0 i0 k1 i1 = Act.cold n i c p (Hear.isInfo k0 || Hear.isInfo k1) (Hear.firstI (Hear.isInfo k0) (Hear.isInfo k1) i0 i1) (Hear.isOther i k0 i0 || Hear.isOther i k1 i1) (Hear.firstI (Hear.isOther i k0 i0) (Hear.isOther i k1 i1) i0 i1) (Say.kind n i 2 c p == 1) from rfl]
  clear h hh hr e3
  generalize (Hear.isInfo k0 || Hear.isInfo k1) = b1 at *
  generalize Hear.firstI (Hear.isInfo k0) (Hear.isInfo k1) i0 i1 = d1 at *
  generalize (Hear.isOther i k0 i0 || Hear.isOther i k1 i1) = b2 at *
  generalize Hear.firstI (Hear.isOther i k0 i0) (Hear.isOther i k1 i1) i0 i1 = d2 at *
  generalize Say.kind n i 2 c p = sk at *
  generalize Say.id_ n i 2 c p = si at *
  cases b1
  · clear H1
    cases b2
    · clear H2
      by_cases hs : sk = 1
      · have hs2 : (sk == 1) = true := (by simp [hs]); clear hs
        rw [hs2, show Act.val (Act.cold n i c p false d1 false d2 true) = .agg #[.int .i64 i, .int .i64 2, .int .i64 0, .int .i64 0] from rfl]
        go_enter Try.func10, Try.ntmps10
        go_wp2_with fail
        refine (refNright_any _ _ _ _ _ _).mono ?_; rintro e wa ⟨rfl, hb⟩; have hz := hb.size; (try simp only [World.size_alloc, World.heap_drewN, World.size_drew, World.size_setCell] at hz)
        rw [HH.out]
        have HB1 := Lib.hid (show Below w.heap.size w wa from bel)
        have z_rx : (w.heap.size) < wa.heap.size := (by omega); replace rx : wa.rangeAt (w.heap.size) 0 [.int .i64 i, .int .i64 2, .int .i64 c, .int .i64 p] := rng; replace f_rx : Free wa (w.heap.size) := fre
        have z_rh : (w.heap.size + 1) < wa.heap.size := (by omega); replace rh : wa.rangeAt (w.heap.size + 1) 0 [.int .i64 k0, .int .i64 i0, .int .i64 k1, .int .i64 i1] := rng
        have z_rr : (w.heap.size + 1 + 1) < wa.heap.size := (by omega); replace rr : wa.rangeAt (w.heap.size + 1 + 1) 0 [.int .i64 0, .int .i64 0, .int .i64 0, .int .i64 0] := rng; replace f_rr : Free wa (w.heap.size + 1 + 1) := fre
        clear hb
        replace rx_0 := range_cell rx 0 rfl; replace rx_1 := range_cell rx 1 rfl; replace rx_2 := range_cell rx 2 rfl; replace rx_3 := range_cell rx 3 rfl
        replace rx_f0 := f_rx 0; replace rx_f1 := f_rx 1; replace rx_f2 := f_rx 2; replace rx_f3 := f_rx 3
        replace rh_0 := range_cell rh 0 rfl; replace rh_1 := range_cell rh 1 rfl; replace rh_2 := range_cell rh 2 rfl; replace rh_3 := range_cell rh 3 rfl
        replace rr_0 := range_cell rr 0 rfl; replace rr_1 := range_cell rr 1 rfl; replace rr_2 := range_cell rr 2 rfl; replace rr_3 := range_cell rr 3 rfl
        replace rr_f0 := f_rr 0; replace rr_f1 := f_rr 1; replace rr_f2 := f_rr 2; replace rr_f3 := f_rr 3
        go_wp2_with fail
        refine (CS.out _).mono ?_; rintro e wb ⟨rfl, hb⟩; have hz := hb.size; (try simp only [World.size_alloc, World.heap_drewN, World.size_drew, World.size_setCell] at hz)
        have HB2 := Lib.hid (show Below w.heap.size w wb from by have := HB1.out; exact bel)
        have z_rx : (w.heap.size) < wb.heap.size := (by omega); replace rx : wb.rangeAt (w.heap.size) 0 [.int .i64 i, .int .i64 2, .int .i64 c, .int .i64 p] := rng; replace f_rx : Free wb (w.heap.size) := fre
        have z_rh : (w.heap.size + 1) < wb.heap.size := (by omega); replace rh : wb.rangeAt (w.heap.size + 1) 0 [.int .i64 k0, .int .i64 i0, .int .i64 k1, .int .i64 i1] := rng
        have z_rr : (w.heap.size + 1 + 1) < wb.heap.size := (by omega); replace rr : wb.rangeAt (w.heap.size + 1 + 1) 0 [.int .i64 0, .int .i64 0, .int .i64 0, .int .i64 0] := rng; replace f_rr : Free wb (w.heap.size + 1 + 1) := fre
        clear hb
        replace rx_0 := range_cell rx 0 rfl; replace rx_1 := range_cell rx 1 rfl; replace rx_2 := range_cell rx 2 rfl; replace rx_3 := range_cell rx 3 rfl
        replace rx_f0 := f_rx 0; replace rx_f1 := f_rx 1; replace rx_f2 := f_rx 2; replace rx_f3 := f_rx 3
        replace rh_0 := range_cell rh 0 rfl; replace rh_1 := range_cell rh 1 rfl; replace rh_2 := range_cell rh 2 rfl; replace rh_3 := range_cell rh 3 rfl
        replace rr_0 := range_cell rr 0 rfl; replace rr_1 := range_cell rr 1 rfl; replace rr_2 := range_cell rr 2 rfl; replace rr_3 := range_cell rr 3 rfl
        replace rr_f0 := f_rr 0; replace rr_f1 := f_rr 1; replace rr_f2 := f_rr 2; replace rr_f3 := f_rr 3
        go_wp2_with fail
        refine (CI.out _).mono ?_; rintro e wc ⟨rfl, hb⟩; have hz := hb.size; (try simp only [World.size_alloc, World.heap_drewN, World.size_drew, World.size_setCell] at hz)
        have HB3 := Lib.hid (show Below w.heap.size w wc from by have := HB2.out; exact bel)
        have z_rx : (w.heap.size) < wc.heap.size := (by omega); replace rx : wc.rangeAt (w.heap.size) 0 [.int .i64 i, .int .i64 2, .int .i64 c, .int .i64 p] := rng; replace f_rx : Free wc (w.heap.size) := fre
        have z_rh : (w.heap.size + 1) < wc.heap.size := (by omega); replace rh : wc.rangeAt (w.heap.size + 1) 0 [.int .i64 k0, .int .i64 i0, .int .i64 k1, .int .i64 i1] := rng
        have z_rr : (w.heap.size + 1 + 1) < wc.heap.size := (by omega); replace rr : wc.rangeAt (w.heap.size + 1 + 1) 0 [.int .i64 0, .int .i64 0, .int .i64 0, .int .i64 0] := rng; replace f_rr : Free wc (w.heap.size + 1 + 1) := fre
        have z_rf : (wb.heap.size) < wc.heap.size := (by omega); replace rf : wc.rangeAt (wb.heap.size) 0 [.int .i64 sk, .int .i64 si] := rng
        clear hb
        replace rx_0 := range_cell rx 0 rfl; replace rx_1 := range_cell rx 1 rfl; replace rx_2 := range_cell rx 2 rfl; replace rx_3 := range_cell rx 3 rfl
        replace rx_f0 := f_rx 0; replace rx_f1 := f_rx 1; replace rx_f2 := f_rx 2; replace rx_f3 := f_rx 3
        replace rh_0 := range_cell rh 0 rfl; replace rh_1 := range_cell rh 1 rfl; replace rh_2 := range_cell rh 2 rfl; replace rh_3 := range_cell rh 3 rfl
        replace rr_0 := range_cell rr 0 rfl; replace rr_1 := range_cell rr 1 rfl; replace rr_2 := range_cell rr 2 rfl; replace rr_3 := range_cell rr 3 rfl
        replace rr_f0 := f_rr 0; replace rr_f1 := f_rr 1; replace rr_f2 := f_rr 2; replace rr_f3 := f_rr 3
        replace rf_0 := range_cell rf 0 rfl; replace rf_1 := range_cell rf 1 rfl
        go_wp2_with fail
        refine (CO.out _).mono ?_; rintro e wd ⟨rfl, hb⟩; have hz := hb.size; (try simp only [World.size_alloc, World.heap_drewN, World.size_drew, World.size_setCell] at hz)
        have HB4 := Lib.hid (show Below w.heap.size w wd from by have := HB3.out; exact bel)
        have z_rx : (w.heap.size) < wd.heap.size := (by omega); replace rx : wd.rangeAt (w.heap.size) 0 [.int .i64 i, .int .i64 2, .int .i64 c, .int .i64 p] := rng; replace f_rx : Free wd (w.heap.size) := fre
        have z_rh : (w.heap.size + 1) < wd.heap.size := (by omega); replace rh : wd.rangeAt (w.heap.size + 1) 0 [.int .i64 k0, .int .i64 i0, .int .i64 k1, .int .i64 i1] := rng
        have z_rr : (w.heap.size + 1 + 1) < wd.heap.size := (by omega); replace rr : wd.rangeAt (w.heap.size + 1 + 1) 0 [.int .i64 0, .int .i64 0, .int .i64 0, .int .i64 0] := rng; replace f_rr : Free wd (w.heap.size + 1 + 1) := fre
        have z_rf : (wb.heap.size) < wd.heap.size := (by omega); replace rf : wd.rangeAt (wb.heap.size) 0 [.int .i64 sk, .int .i64 si] := rng
        clear hb
        replace rx_0 := range_cell rx 0 rfl; replace rx_1 := range_cell rx 1 rfl; replace rx_2 := range_cell rx 2 rfl; replace rx_3 := range_cell rx 3 rfl
        replace rx_f0 := f_rx 0; replace rx_f1 := f_rx 1; replace rx_f2 := f_rx 2; replace rx_f3 := f_rx 3
        replace rh_0 := range_cell rh 0 rfl; replace rh_1 := range_cell rh 1 rfl; replace rh_2 := range_cell rh 2 rfl; replace rh_3 := range_cell rh 3 rfl
        replace rr_0 := range_cell rr 0 rfl; replace rr_1 := range_cell rr 1 rfl; replace rr_2 := range_cell rr 2 rfl; replace rr_3 := range_cell rr 3 rfl
        replace rr_f0 := f_rr 0; replace rr_f1 := f_rr 1; replace rr_f2 := f_rr 2; replace rr_f3 := f_rr 3
        replace rf_0 := range_cell rf 0 rfl; replace rf_1 := range_cell rf 1 rfl
        go_wp2_with fail
        refine (refTo_any _ _ _ _ _ _ _).mono ?_; rintro e we ⟨rfl, hb⟩; have hz := hb.size; (try simp only [World.size_alloc, World.heap_drewN, World.size_drew, World.size_setCell] at hz)
        have HB5 := Lib.hid (show Below w.heap.size w we from by have := HB4.out; exact bel)
        have z_rx : (w.heap.size) < we.heap.size := (by omega); replace rx : we.rangeAt (w.heap.size) 0 [.int .i64 i, .int .i64 2, .int .i64 c, .int .i64 p] := rng; replace f_rx : Free we (w.heap.size) := fre
        have z_rh : (w.heap.size + 1) < we.heap.size := (by omega); replace rh : we.rangeAt (w.heap.size + 1) 0 [.int .i64 k0, .int .i64 i0, .int .i64 k1, .int .i64 i1] := rng
        have z_rr : (w.heap.size + 1 + 1) < we.heap.size := (by omega); replace rr : we.rangeAt (w.heap.size + 1 + 1) 0 [.int .i64 0, .int .i64 0, .int .i64 0, .int .i64 0] := rng; replace f_rr : Free we (w.heap.size + 1 + 1) := fre
        have z_rf : (wb.heap.size) < we.heap.size := (by omega); replace rf : we.rangeAt (wb.heap.size) 0 [.int .i64 sk, .int .i64 si] := rng
        clear hb
        replace rx_0 := range_cell rx 0 rfl; replace rx_1 := range_cell rx 1 rfl; replace rx_2 := range_cell rx 2 rfl; replace rx_3 := range_cell rx 3 rfl
        replace rx_f0 := f_rx 0; replace rx_f1 := f_rx 1; replace rx_f2 := f_rx 2; replace rx_f3 := f_rx 3
        replace rh_0 := range_cell rh 0 rfl; replace rh_1 := range_cell rh 1 rfl; replace rh_2 := range_cell rh 2 rfl; replace rh_3 := range_cell rh 3 rfl
        replace rr_0 := range_cell rr 0 rfl; replace rr_1 := range_cell rr 1 rfl; replace rr_2 := range_cell rr 2 rfl; replace rr_3 := range_cell rr 3 rfl
        replace rr_f0 := f_rr 0; replace rr_f1 := f_rr 1; replace rr_f2 := f_rr 2; replace rr_f3 := f_rr 3
        replace rf_0 := range_cell rf 0 rfl; replace rf_1 := range_cell rf 1 rfl
        have := HB5.out
        go_wp2
        refine bodyPost_ret (ret_cell_tmp Try.results10 (w.heap.size + 1 + 1) [.int .i64 i, .int .i64 2, .int .i64 0, .int .i64 0] _ rfl rng Try.underlying23 rfl (by kernel_rfl)) rfl ⟨rfl, ?_⟩; exact bel
      · have hs2 : (sk == 1) = false := by simp [hs]
        rw [hs2, show Act.val (Act.cold n i c p false d1 false d2 false) = .agg #[.int .i64 i, .int .i64 2, .int .i64 (Act.up c), .int .i64 p] from rfl]
        go_enter Try.func10, Try.ntmps10
        go_wp2_with fail
        refine (refNright_any _ _ _ _ _ _).mono ?_; rintro e wa ⟨rfl, hb⟩; have hz := hb.size; (try simp only [World.size_alloc, World.heap_drewN, World.size_drew, World.size_setCell] at hz)
        rw [HH.out]
        have HB1 := Lib.hid (show Below w.heap.size w wa from bel)
        have z_rx : (w.heap.size) < wa.heap.size := (by omega); replace rx : wa.rangeAt (w.heap.size) 0 [.int .i64 i, .int .i64 2, .int .i64 c, .int .i64 p] := rng; replace f_rx : Free wa (w.heap.size) := fre
        have z_rh : (w.heap.size + 1) < wa.heap.size := (by omega); replace rh : wa.rangeAt (w.heap.size + 1) 0 [.int .i64 k0, .int .i64 i0, .int .i64 k1, .int .i64 i1] := rng
        have z_rr : (w.heap.size + 1 + 1) < wa.heap.size := (by omega); replace rr : wa.rangeAt (w.heap.size + 1 + 1) 0 [.int .i64 0, .int .i64 0, .int .i64 0, .int .i64 0] := rng; replace f_rr : Free wa (w.heap.size + 1 + 1) := fre
        clear hb
        replace rx_0 := range_cell rx 0 rfl; replace rx_1 := range_cell rx 1 rfl; replace rx_2 := range_cell rx 2 rfl; replace rx_3 := range_cell rx 3 rfl
        replace rx_f0 := f_rx 0; replace rx_f1 := f_rx 1; replace rx_f2 := f_rx 2; replace rx_f3 := f_rx 3
        replace rh_0 := range_cell rh 0 rfl; replace rh_1 := range_cell rh 1 rfl; replace rh_2 := range_cell rh 2 rfl; replace rh_3 := range_cell rh 3 rfl
        replace rr_0 := range_cell rr 0 rfl; replace rr_1 := range_cell rr 1 rfl; replace rr_2 := range_cell rr 2 rfl; replace rr_3 := range_cell rr 3 rfl
        replace rr_f0 := f_rr 0; replace rr_f1 := f_rr 1; replace rr_f2 := f_rr 2; replace rr_f3 := f_rr 3
        go_wp2_with fail
        refine (CS.out _).mono ?_; rintro e wb ⟨rfl, hb⟩; have hz := hb.size; (try simp only [World.size_alloc, World.heap_drewN, World.size_drew, World.size_setCell] at hz)
        have HB2 := Lib.hid (show Below w.heap.size w wb from by have := HB1.out; exact bel)
        have z_rx : (w.heap.size) < wb.heap.size := (by omega); replace rx : wb.rangeAt (w.heap.size) 0 [.int .i64 i, .int .i64 2, .int .i64 c, .int .i64 p] := rng; replace f_rx : Free wb (w.heap.size) := fre
        have z_rh : (w.heap.size + 1) < wb.heap.size := (by omega); replace rh : wb.rangeAt (w.heap.size + 1) 0 [.int .i64 k0, .int .i64 i0, .int .i64 k1, .int .i64 i1] := rng
        have z_rr : (w.heap.size + 1 + 1) < wb.heap.size := (by omega); replace rr : wb.rangeAt (w.heap.size + 1 + 1) 0 [.int .i64 0, .int .i64 0, .int .i64 0, .int .i64 0] := rng; replace f_rr : Free wb (w.heap.size + 1 + 1) := fre
        clear hb
        replace rx_0 := range_cell rx 0 rfl; replace rx_1 := range_cell rx 1 rfl; replace rx_2 := range_cell rx 2 rfl; replace rx_3 := range_cell rx 3 rfl
        replace rx_f0 := f_rx 0; replace rx_f1 := f_rx 1; replace rx_f2 := f_rx 2; replace rx_f3 := f_rx 3
        replace rh_0 := range_cell rh 0 rfl; replace rh_1 := range_cell rh 1 rfl; replace rh_2 := range_cell rh 2 rfl; replace rh_3 := range_cell rh 3 rfl
        replace rr_0 := range_cell rr 0 rfl; replace rr_1 := range_cell rr 1 rfl; replace rr_2 := range_cell rr 2 rfl; replace rr_3 := range_cell rr 3 rfl
        replace rr_f0 := f_rr 0; replace rr_f1 := f_rr 1; replace rr_f2 := f_rr 2; replace rr_f3 := f_rr 3
        go_wp2_with fail
        refine (CI.out _).mono ?_; rintro e wc ⟨rfl, hb⟩; have hz := hb.size; (try simp only [World.size_alloc, World.heap_drewN, World.size_drew, World.size_setCell] at hz)
        have HB3 := Lib.hid (show Below w.heap.size w wc from by have := HB2.out; exact bel)
        have z_rx : (w.heap.size) < wc.heap.size := (by omega); replace rx : wc.rangeAt (w.heap.size) 0 [.int .i64 i, .int .i64 2, .int .i64 c, .int .i64 p] := rng; replace f_rx : Free wc (w.heap.size) := fre
        have z_rh : (w.heap.size + 1) < wc.heap.size := (by omega); replace rh : wc.rangeAt (w.heap.size + 1) 0 [.int .i64 k0, .int .i64 i0, .int .i64 k1, .int .i64 i1] := rng
        have z_rr : (w.heap.size + 1 + 1) < wc.heap.size := (by omega); replace rr : wc.rangeAt (w.heap.size + 1 + 1) 0 [.int .i64 0, .int .i64 0, .int .i64 0, .int .i64 0] := rng; replace f_rr : Free wc (w.heap.size + 1 + 1) := fre
        have z_rf : (wb.heap.size) < wc.heap.size := (by omega); replace rf : wc.rangeAt (wb.heap.size) 0 [.int .i64 sk, .int .i64 si] := rng
        clear hb
        replace rx_0 := range_cell rx 0 rfl; replace rx_1 := range_cell rx 1 rfl; replace rx_2 := range_cell rx 2 rfl; replace rx_3 := range_cell rx 3 rfl
        replace rx_f0 := f_rx 0; replace rx_f1 := f_rx 1; replace rx_f2 := f_rx 2; replace rx_f3 := f_rx 3
        replace rh_0 := range_cell rh 0 rfl; replace rh_1 := range_cell rh 1 rfl; replace rh_2 := range_cell rh 2 rfl; replace rh_3 := range_cell rh 3 rfl
        replace rr_0 := range_cell rr 0 rfl; replace rr_1 := range_cell rr 1 rfl; replace rr_2 := range_cell rr 2 rfl; replace rr_3 := range_cell rr 3 rfl
        replace rr_f0 := f_rr 0; replace rr_f1 := f_rr 1; replace rr_f2 := f_rr 2; replace rr_f3 := f_rr 3
        replace rf_0 := range_cell rf 0 rfl; replace rf_1 := range_cell rf 1 rfl
        go_wp2_with fail
        refine (CO.out _).mono ?_; rintro e wd ⟨rfl, hb⟩; have hz := hb.size; (try simp only [World.size_alloc, World.heap_drewN, World.size_drew, World.size_setCell] at hz)
        have HB4 := Lib.hid (show Below w.heap.size w wd from by have := HB3.out; exact bel)
        have z_rx : (w.heap.size) < wd.heap.size := (by omega); replace rx : wd.rangeAt (w.heap.size) 0 [.int .i64 i, .int .i64 2, .int .i64 c, .int .i64 p] := rng; replace f_rx : Free wd (w.heap.size) := fre
        have z_rh : (w.heap.size + 1) < wd.heap.size := (by omega); replace rh : wd.rangeAt (w.heap.size + 1) 0 [.int .i64 k0, .int .i64 i0, .int .i64 k1, .int .i64 i1] := rng
        have z_rr : (w.heap.size + 1 + 1) < wd.heap.size := (by omega); replace rr : wd.rangeAt (w.heap.size + 1 + 1) 0 [.int .i64 0, .int .i64 0, .int .i64 0, .int .i64 0] := rng; replace f_rr : Free wd (w.heap.size + 1 + 1) := fre
        have z_rf : (wb.heap.size) < wd.heap.size := (by omega); replace rf : wd.rangeAt (wb.heap.size) 0 [.int .i64 sk, .int .i64 si] := rng
        clear hb
        replace rx_0 := range_cell rx 0 rfl; replace rx_1 := range_cell rx 1 rfl; replace rx_2 := range_cell rx 2 rfl; replace rx_3 := range_cell rx 3 rfl
        replace rx_f0 := f_rx 0; replace rx_f1 := f_rx 1; replace rx_f2 := f_rx 2; replace rx_f3 := f_rx 3
        replace rh_0 := range_cell rh 0 rfl; replace rh_1 := range_cell rh 1 rfl; replace rh_2 := range_cell rh 2 rfl; replace rh_3 := range_cell rh 3 rfl
        replace rr_0 := range_cell rr 0 rfl; replace rr_1 := range_cell rr 1 rfl; replace rr_2 := range_cell rr 2 rfl; replace rr_3 := range_cell rr 3 rfl
        replace rr_f0 := f_rr 0; replace rr_f1 := f_rr 1; replace rr_f2 := f_rr 2; replace rr_f3 := f_rr 3
        replace rf_0 := range_cell rf 0 rfl; replace rf_1 := range_cell rf 1 rfl
        go_wp2_with fail
        refine (refAup_any i 2 c p hc _).mono ?_; rintro e we ⟨rfl, hb⟩; have hz := hb.size; (try simp only [World.size_alloc, World.heap_drewN, World.size_drew, World.size_setCell] at hz)
        have HB5 := Lib.hid (show Below w.heap.size w we from by have := HB4.out; exact bel)
        have z_rx : (w.heap.size) < we.heap.size := (by omega); replace rx : we.rangeAt (w.heap.size) 0 [.int .i64 i, .int .i64 2, .int .i64 c, .int .i64 p] := rng; replace f_rx : Free we (w.heap.size) := fre
        have z_rh : (w.heap.size + 1) < we.heap.size := (by omega); replace rh : we.rangeAt (w.heap.size + 1) 0 [.int .i64 k0, .int .i64 i0, .int .i64 k1, .int .i64 i1] := rng
        have z_rr : (w.heap.size + 1 + 1) < we.heap.size := (by omega); replace rr : we.rangeAt (w.heap.size + 1 + 1) 0 [.int .i64 0, .int .i64 0, .int .i64 0, .int .i64 0] := rng; replace f_rr : Free we (w.heap.size + 1 + 1) := fre
        have z_rf : (wb.heap.size) < we.heap.size := (by omega); replace rf : we.rangeAt (wb.heap.size) 0 [.int .i64 sk, .int .i64 si] := rng
        clear hb
        replace rx_0 := range_cell rx 0 rfl; replace rx_1 := range_cell rx 1 rfl; replace rx_2 := range_cell rx 2 rfl; replace rx_3 := range_cell rx 3 rfl
        replace rx_f0 := f_rx 0; replace rx_f1 := f_rx 1; replace rx_f2 := f_rx 2; replace rx_f3 := f_rx 3
        replace rh_0 := range_cell rh 0 rfl; replace rh_1 := range_cell rh 1 rfl; replace rh_2 := range_cell rh 2 rfl; replace rh_3 := range_cell rh 3 rfl
        replace rr_0 := range_cell rr 0 rfl; replace rr_1 := range_cell rr 1 rfl; replace rr_2 := range_cell rr 2 rfl; replace rr_3 := range_cell rr 3 rfl
        replace rr_f0 := f_rr 0; replace rr_f1 := f_rr 1; replace rr_f2 := f_rr 2; replace rr_f3 := f_rr 3
        replace rf_0 := range_cell rf 0 rfl; replace rf_1 := range_cell rf 1 rfl
        have := HB5.out
        go_wp2
        refine bodyPost_ret (ret_cell_tmp Try.results10 (w.heap.size + 1 + 1) [.int .i64 i, .int .i64 2, .int .i64 (Act.up c), .int .i64 p] _ rfl rng Try.underlying23 rfl (by kernel_rfl)) rfl ⟨rfl, ?_⟩; exact bel
    · have h2 := H2 rfl
      clear H2
      rw [show Act.val (Act.cold n i c p false d1 true d2 (sk == 1)) = .agg #[.int .i64 i, .int .i64 3, .int .i64 0, .int .i64 ((d2 + 1) % n)] from by unfold Act.cold; simp [Act.val]]
      go_enter Try.func10, Try.ntmps10
      go_wp2_with fail
      refine (refNright_any _ _ _ _ _ _).mono ?_; rintro e wa ⟨rfl, hb⟩; have hz := hb.size; (try simp only [World.size_alloc, World.heap_drewN, World.size_drew, World.size_setCell] at hz)
      rw [HH.out]
      have HB1 := Lib.hid (show Below w.heap.size w wa from bel)
      have z_rx : (w.heap.size) < wa.heap.size := (by omega); replace rx : wa.rangeAt (w.heap.size) 0 [.int .i64 i, .int .i64 2, .int .i64 c, .int .i64 p] := rng; replace f_rx : Free wa (w.heap.size) := fre
      have z_rh : (w.heap.size + 1) < wa.heap.size := (by omega); replace rh : wa.rangeAt (w.heap.size + 1) 0 [.int .i64 k0, .int .i64 i0, .int .i64 k1, .int .i64 i1] := rng
      have z_rr : (w.heap.size + 1 + 1) < wa.heap.size := (by omega); replace rr : wa.rangeAt (w.heap.size + 1 + 1) 0 [.int .i64 0, .int .i64 0, .int .i64 0, .int .i64 0] := rng; replace f_rr : Free wa (w.heap.size + 1 + 1) := fre
      clear hb
      replace rx_0 := range_cell rx 0 rfl; replace rx_1 := range_cell rx 1 rfl; replace rx_2 := range_cell rx 2 rfl; replace rx_3 := range_cell rx 3 rfl
      replace rx_f0 := f_rx 0; replace rx_f1 := f_rx 1; replace rx_f2 := f_rx 2; replace rx_f3 := f_rx 3
      replace rh_0 := range_cell rh 0 rfl; replace rh_1 := range_cell rh 1 rfl; replace rh_2 := range_cell rh 2 rfl; replace rh_3 := range_cell rh 3 rfl
      replace rr_0 := range_cell rr 0 rfl; replace rr_1 := range_cell rr 1 rfl; replace rr_2 := range_cell rr 2 rfl; replace rr_3 := range_cell rr 3 rfl
      replace rr_f0 := f_rr 0; replace rr_f1 := f_rr 1; replace rr_f2 := f_rr 2; replace rr_f3 := f_rr 3
      go_wp2_with fail
      refine (CS.out _).mono ?_; rintro e wb ⟨rfl, hb⟩; have hz := hb.size; (try simp only [World.size_alloc, World.heap_drewN, World.size_drew, World.size_setCell] at hz)
      have HB2 := Lib.hid (show Below w.heap.size w wb from by have := HB1.out; exact bel)
      have z_rx : (w.heap.size) < wb.heap.size := (by omega); replace rx : wb.rangeAt (w.heap.size) 0 [.int .i64 i, .int .i64 2, .int .i64 c, .int .i64 p] := rng; replace f_rx : Free wb (w.heap.size) := fre
      have z_rh : (w.heap.size + 1) < wb.heap.size := (by omega); replace rh : wb.rangeAt (w.heap.size + 1) 0 [.int .i64 k0, .int .i64 i0, .int .i64 k1, .int .i64 i1] := rng
      have z_rr : (w.heap.size + 1 + 1) < wb.heap.size := (by omega); replace rr : wb.rangeAt (w.heap.size + 1 + 1) 0 [.int .i64 0, .int .i64 0, .int .i64 0, .int .i64 0] := rng; replace f_rr : Free wb (w.heap.size + 1 + 1) := fre
      clear hb
      replace rx_0 := range_cell rx 0 rfl; replace rx_1 := range_cell rx 1 rfl; replace rx_2 := range_cell rx 2 rfl; replace rx_3 := range_cell rx 3 rfl
      replace rx_f0 := f_rx 0; replace rx_f1 := f_rx 1; replace rx_f2 := f_rx 2; replace rx_f3 := f_rx 3
      replace rh_0 := range_cell rh 0 rfl; replace rh_1 := range_cell rh 1 rfl; replace rh_2 := range_cell rh 2 rfl; replace rh_3 := range_cell rh 3 rfl
      replace rr_0 := range_cell rr 0 rfl; replace rr_1 := range_cell rr 1 rfl; replace rr_2 := range_cell rr 2 rfl; replace rr_3 := range_cell rr 3 rfl
      replace rr_f0 := f_rr 0; replace rr_f1 := f_rr 1; replace rr_f2 := f_rr 2; replace rr_f3 := f_rr 3
      go_wp2_with fail
      refine (CI.out _).mono ?_; rintro e wc ⟨rfl, hb⟩; have hz := hb.size; (try simp only [World.size_alloc, World.heap_drewN, World.size_drew, World.size_setCell] at hz)
      have HB3 := Lib.hid (show Below w.heap.size w wc from by have := HB2.out; exact bel)
      have z_rx : (w.heap.size) < wc.heap.size := (by omega); replace rx : wc.rangeAt (w.heap.size) 0 [.int .i64 i, .int .i64 2, .int .i64 c, .int .i64 p] := rng; replace f_rx : Free wc (w.heap.size) := fre
      have z_rh : (w.heap.size + 1) < wc.heap.size := (by omega); replace rh : wc.rangeAt (w.heap.size + 1) 0 [.int .i64 k0, .int .i64 i0, .int .i64 k1, .int .i64 i1] := rng
      have z_rr : (w.heap.size + 1 + 1) < wc.heap.size := (by omega); replace rr : wc.rangeAt (w.heap.size + 1 + 1) 0 [.int .i64 0, .int .i64 0, .int .i64 0, .int .i64 0] := rng; replace f_rr : Free wc (w.heap.size + 1 + 1) := fre
      have z_rf : (wb.heap.size) < wc.heap.size := (by omega); replace rf : wc.rangeAt (wb.heap.size) 0 [.int .i64 sk, .int .i64 si] := rng
      clear hb
      replace rx_0 := range_cell rx 0 rfl; replace rx_1 := range_cell rx 1 rfl; replace rx_2 := range_cell rx 2 rfl; replace rx_3 := range_cell rx 3 rfl
      replace rx_f0 := f_rx 0; replace rx_f1 := f_rx 1; replace rx_f2 := f_rx 2; replace rx_f3 := f_rx 3
      replace rh_0 := range_cell rh 0 rfl; replace rh_1 := range_cell rh 1 rfl; replace rh_2 := range_cell rh 2 rfl; replace rh_3 := range_cell rh 3 rfl
      replace rr_0 := range_cell rr 0 rfl; replace rr_1 := range_cell rr 1 rfl; replace rr_2 := range_cell rr 2 rfl; replace rr_3 := range_cell rr 3 rfl
      replace rr_f0 := f_rr 0; replace rr_f1 := f_rr 1; replace rr_f2 := f_rr 2; replace rr_f3 := f_rr 3
      replace rf_0 := range_cell rf 0 rfl; replace rf_1 := range_cell rf 1 rfl
      go_wp2_with fail
      refine (CO.out _).mono ?_; rintro e wd ⟨rfl, hb⟩; have hz := hb.size; (try simp only [World.size_alloc, World.heap_drewN, World.size_drew, World.size_setCell] at hz)
      have HB4 := Lib.hid (show Below w.heap.size w wd from by have := HB3.out; exact bel)
      have z_rx : (w.heap.size) < wd.heap.size := (by omega); replace rx : wd.rangeAt (w.heap.size) 0 [.int .i64 i, .int .i64 2, .int .i64 c, .int .i64 p] := rng; replace f_rx : Free wd (w.heap.size) := fre
      have z_rh : (w.heap.size + 1) < wd.heap.size := (by omega); replace rh : wd.rangeAt (w.heap.size + 1) 0 [.int .i64 k0, .int .i64 i0, .int .i64 k1, .int .i64 i1] := rng
      have z_rr : (w.heap.size + 1 + 1) < wd.heap.size := (by omega); replace rr : wd.rangeAt (w.heap.size + 1 + 1) 0 [.int .i64 0, .int .i64 0, .int .i64 0, .int .i64 0] := rng; replace f_rr : Free wd (w.heap.size + 1 + 1) := fre
      have z_rf : (wb.heap.size) < wd.heap.size := (by omega); replace rf : wd.rangeAt (wb.heap.size) 0 [.int .i64 sk, .int .i64 si] := rng
      clear hb
      replace rx_0 := range_cell rx 0 rfl; replace rx_1 := range_cell rx 1 rfl; replace rx_2 := range_cell rx 2 rfl; replace rx_3 := range_cell rx 3 rfl
      replace rx_f0 := f_rx 0; replace rx_f1 := f_rx 1; replace rx_f2 := f_rx 2; replace rx_f3 := f_rx 3
      replace rh_0 := range_cell rh 0 rfl; replace rh_1 := range_cell rh 1 rfl; replace rh_2 := range_cell rh 2 rfl; replace rh_3 := range_cell rh 3 rfl
      replace rr_0 := range_cell rr 0 rfl; replace rr_1 := range_cell rr 1 rfl; replace rr_2 := range_cell rr 2 rfl; replace rr_3 := range_cell rr 3 rfl
      replace rr_f0 := f_rr 0; replace rr_f1 := f_rr 1; replace rr_f2 := f_rr 2; replace rr_f3 := f_rr 3
      replace rf_0 := range_cell rf 0 rfl; replace rf_1 := range_cell rf 1 rfl
      go_wp2_with fail
      go_region_with (first | (go_at_call 21; refine (refNext_any n d2 (by omega) (by omega) h2.1 h2.2 _).mono ?_; rintro e w' ⟨rfl, rfl⟩) | (go_at_call 20; refine (refTo_any _ _ _ _ _ _ _).mono ?_; rintro e we ⟨rfl, hb⟩; have hz := hb.size; (try simp at hz); have HB5 := Lib.hid (show Below w.heap.size w we from by have := HB4.out; exact bel); have z_rr : (w.heap.size + 1 + 1) < we.heap.size := (by omega); replace rr : we.rangeAt (w.heap.size + 1 + 1) 0 [.int .i64 0, .int .i64 0, .int .i64 0, .int .i64 0] := rng; replace f_rr : Free we (w.heap.size + 1 + 1) := fre; clear hb; replace rr_0 := range_cell rr 0 rfl; replace rr_1 := range_cell rr 1 rfl; replace rr_2 := range_cell rr 2 rfl; replace rr_3 := range_cell rr 3 rfl; replace rr_f0 := f_rr 0; replace rr_f1 := f_rr 1; replace rr_f2 := f_rr 2; replace rr_f3 := f_rr 3))
      all_goals
        have := HB5.out
        go_wp2
        refine bodyPost_ret (ret_cell_tmp Try.results10 (w.heap.size + 1 + 1) [.int .i64 i, .int .i64 3, .int .i64 0, .int .i64 ((d2 + 1) % n)] _ rfl rng Try.underlying23 rfl (by kernel_rfl)) rfl ⟨rfl, ?_⟩; exact bel
  · have h1 := H1 rfl
    clear H1 H2
    rw [show Act.val (Act.cold n i c p true d1 b2 d2 (sk == 1)) = .agg #[.int .i64 i, .int .i64 3, .int .i64 0, .int .i64 ((d1 + 1) % n)] from by unfold Act.cold; simp [Act.val]]
    go_enter Try.func10, Try.ntmps10
    go_wp2_with fail
    refine (refNright_any _ _ _ _ _ _).mono ?_; rintro e wa ⟨rfl, hb⟩; have hz := hb.size; (try simp only [World.size_alloc, World.heap_drewN, World.size_drew, World.size_setCell] at hz)
    rw [HH.out]
    have HB1 := Lib.hid (show Below w.heap.size w wa from bel)
    have z_rx : (w.heap.size) < wa.heap.size := (by omega); replace rx : wa.rangeAt (w.heap.size) 0 [.int .i64 i, .int .i64 2, .int .i64 c, .int .i64 p] := rng; replace f_rx : Free wa (w.heap.size) := fre
    have z_rh : (w.heap.size + 1) < wa.heap.size := (by omega); replace rh : wa.rangeAt (w.heap.size + 1) 0 [.int .i64 k0, .int .i64 i0, .int .i64 k1, .int .i64 i1] := rng
    have z_rr : (w.heap.size + 1 + 1) < wa.heap.size := (by omega); replace rr : wa.rangeAt (w.heap.size + 1 + 1) 0 [.int .i64 0, .int .i64 0, .int .i64 0, .int .i64 0] := rng; replace f_rr : Free wa (w.heap.size + 1 + 1) := fre
    clear hb
    replace rx_0 := range_cell rx 0 rfl; replace rx_1 := range_cell rx 1 rfl; replace rx_2 := range_cell rx 2 rfl; replace rx_3 := range_cell rx 3 rfl
    replace rx_f0 := f_rx 0; replace rx_f1 := f_rx 1; replace rx_f2 := f_rx 2; replace rx_f3 := f_rx 3
    replace rh_0 := range_cell rh 0 rfl; replace rh_1 := range_cell rh 1 rfl; replace rh_2 := range_cell rh 2 rfl; replace rh_3 := range_cell rh 3 rfl
    replace rr_0 := range_cell rr 0 rfl; replace rr_1 := range_cell rr 1 rfl; replace rr_2 := range_cell rr 2 rfl; replace rr_3 := range_cell rr 3 rfl
    replace rr_f0 := f_rr 0; replace rr_f1 := f_rr 1; replace rr_f2 := f_rr 2; replace rr_f3 := f_rr 3
    go_wp2_with fail
    refine (CS.out _).mono ?_; rintro e wb ⟨rfl, hb⟩; have hz := hb.size; (try simp only [World.size_alloc, World.heap_drewN, World.size_drew, World.size_setCell] at hz)
    have HB2 := Lib.hid (show Below w.heap.size w wb from by have := HB1.out; exact bel)
    have z_rx : (w.heap.size) < wb.heap.size := (by omega); replace rx : wb.rangeAt (w.heap.size) 0 [.int .i64 i, .int .i64 2, .int .i64 c, .int .i64 p] := rng; replace f_rx : Free wb (w.heap.size) := fre
    have z_rh : (w.heap.size + 1) < wb.heap.size := (by omega); replace rh : wb.rangeAt (w.heap.size + 1) 0 [.int .i64 k0, .int .i64 i0, .int .i64 k1, .int .i64 i1] := rng
    have z_rr : (w.heap.size + 1 + 1) < wb.heap.size := (by omega); replace rr : wb.rangeAt (w.heap.size + 1 + 1) 0 [.int .i64 0, .int .i64 0, .int .i64 0, .int .i64 0] := rng; replace f_rr : Free wb (w.heap.size + 1 + 1) := fre
    clear hb
    replace rx_0 := range_cell rx 0 rfl; replace rx_1 := range_cell rx 1 rfl; replace rx_2 := range_cell rx 2 rfl; replace rx_3 := range_cell rx 3 rfl
    replace rx_f0 := f_rx 0; replace rx_f1 := f_rx 1; replace rx_f2 := f_rx 2; replace rx_f3 := f_rx 3
    replace rh_0 := range_cell rh 0 rfl; replace rh_1 := range_cell rh 1 rfl; replace rh_2 := range_cell rh 2 rfl; replace rh_3 := range_cell rh 3 rfl
    replace rr_0 := range_cell rr 0 rfl; replace rr_1 := range_cell rr 1 rfl; replace rr_2 := range_cell rr 2 rfl; replace rr_3 := range_cell rr 3 rfl
    replace rr_f0 := f_rr 0; replace rr_f1 := f_rr 1; replace rr_f2 := f_rr 2; replace rr_f3 := f_rr 3
    go_wp2_with fail
    refine (CI.out _).mono ?_; rintro e wc ⟨rfl, hb⟩; have hz := hb.size; (try simp only [World.size_alloc, World.heap_drewN, World.size_drew, World.size_setCell] at hz)
    have HB3 := Lib.hid (show Below w.heap.size w wc from by have := HB2.out; exact bel)
    have z_rx : (w.heap.size) < wc.heap.size := (by omega); replace rx : wc.rangeAt (w.heap.size) 0 [.int .i64 i, .int .i64 2, .int .i64 c, .int .i64 p] := rng; replace f_rx : Free wc (w.heap.size) := fre
    have z_rh : (w.heap.size + 1) < wc.heap.size := (by omega); replace rh : wc.rangeAt (w.heap.size + 1) 0 [.int .i64 k0, .int .i64 i0, .int .i64 k1, .int .i64 i1] := rng
    have z_rr : (w.heap.size + 1 + 1) < wc.heap.size := (by omega); replace rr : wc.rangeAt (w.heap.size + 1 + 1) 0 [.int .i64 0, .int .i64 0, .int .i64 0, .int .i64 0] := rng; replace f_rr : Free wc (w.heap.size + 1 + 1) := fre
    have z_rf : (wb.heap.size) < wc.heap.size := (by omega); replace rf : wc.rangeAt (wb.heap.size) 0 [.int .i64 sk, .int .i64 si] := rng
    clear hb
    replace rx_0 := range_cell rx 0 rfl; replace rx_1 := range_cell rx 1 rfl; replace rx_2 := range_cell rx 2 rfl; replace rx_3 := range_cell rx 3 rfl
    replace rx_f0 := f_rx 0; replace rx_f1 := f_rx 1; replace rx_f2 := f_rx 2; replace rx_f3 := f_rx 3
    replace rh_0 := range_cell rh 0 rfl; replace rh_1 := range_cell rh 1 rfl; replace rh_2 := range_cell rh 2 rfl; replace rh_3 := range_cell rh 3 rfl
    replace rr_0 := range_cell rr 0 rfl; replace rr_1 := range_cell rr 1 rfl; replace rr_2 := range_cell rr 2 rfl; replace rr_3 := range_cell rr 3 rfl
    replace rr_f0 := f_rr 0; replace rr_f1 := f_rr 1; replace rr_f2 := f_rr 2; replace rr_f3 := f_rr 3
    replace rf_0 := range_cell rf 0 rfl; replace rf_1 := range_cell rf 1 rfl
    go_wp2_with fail
    refine (CO.out _).mono ?_; rintro e wd ⟨rfl, hb⟩; have hz := hb.size; (try simp only [World.size_alloc, World.heap_drewN, World.size_drew, World.size_setCell] at hz)
    have HB4 := Lib.hid (show Below w.heap.size w wd from by have := HB3.out; exact bel)
    have z_rx : (w.heap.size) < wd.heap.size := (by omega); replace rx : wd.rangeAt (w.heap.size) 0 [.int .i64 i, .int .i64 2, .int .i64 c, .int .i64 p] := rng; replace f_rx : Free wd (w.heap.size) := fre
    have z_rh : (w.heap.size + 1) < wd.heap.size := (by omega); replace rh : wd.rangeAt (w.heap.size + 1) 0 [.int .i64 k0, .int .i64 i0, .int .i64 k1, .int .i64 i1] := rng
    have z_rr : (w.heap.size + 1 + 1) < wd.heap.size := (by omega); replace rr : wd.rangeAt (w.heap.size + 1 + 1) 0 [.int .i64 0, .int .i64 0, .int .i64 0, .int .i64 0] := rng; replace f_rr : Free wd (w.heap.size + 1 + 1) := fre
    have z_rf : (wb.heap.size) < wd.heap.size := (by omega); replace rf : wd.rangeAt (wb.heap.size) 0 [.int .i64 sk, .int .i64 si] := rng
    clear hb
    replace rx_0 := range_cell rx 0 rfl; replace rx_1 := range_cell rx 1 rfl; replace rx_2 := range_cell rx 2 rfl; replace rx_3 := range_cell rx 3 rfl
    replace rx_f0 := f_rx 0; replace rx_f1 := f_rx 1; replace rx_f2 := f_rx 2; replace rx_f3 := f_rx 3
    replace rh_0 := range_cell rh 0 rfl; replace rh_1 := range_cell rh 1 rfl; replace rh_2 := range_cell rh 2 rfl; replace rh_3 := range_cell rh 3 rfl
    replace rr_0 := range_cell rr 0 rfl; replace rr_1 := range_cell rr 1 rfl; replace rr_2 := range_cell rr 2 rfl; replace rr_3 := range_cell rr 3 rfl
    replace rr_f0 := f_rr 0; replace rr_f1 := f_rr 1; replace rr_f2 := f_rr 2; replace rr_f3 := f_rr 3
    replace rf_0 := range_cell rf 0 rfl; replace rf_1 := range_cell rf 1 rfl
    go_wp2_with fail
    go_region_with (first | (go_at_call 21; refine (refNext_any n d1 (by omega) (by omega) h1.1 h1.2 _).mono ?_; rintro e w' ⟨rfl, rfl⟩) | (go_at_call 20; refine (refTo_any _ _ _ _ _ _ _).mono ?_; rintro e we ⟨rfl, hb⟩; have hz := hb.size; (try simp at hz); have HB5 := Lib.hid (show Below w.heap.size w we from by have := HB4.out; exact bel); have z_rr : (w.heap.size + 1 + 1) < we.heap.size := (by omega); replace rr : we.rangeAt (w.heap.size + 1 + 1) 0 [.int .i64 0, .int .i64 0, .int .i64 0, .int .i64 0] := rng; replace f_rr : Free we (w.heap.size + 1 + 1) := fre; clear hb; replace rr_0 := range_cell rr 0 rfl; replace rr_1 := range_cell rr 1 rfl; replace rr_2 := range_cell rr 2 rfl; replace rr_3 := range_cell rr 3 rfl; replace rr_f0 := f_rr 0; replace rr_f1 := f_rr 1; replace rr_f2 := f_rr 2; replace rr_f3 := f_rr 3))
    all_goals
      have := HB5.out
      go_wp2
      refine bodyPost_ret (ret_cell_tmp Try.results10 (w.heap.size + 1 + 1) [.int .i64 i, .int .i64 3, .int .i64 0, .int .i64 ((d1 + 1) % n)] _ rfl rng Try.underlying23 rfl (by kernel_rfl)) rfl ⟨rfl, ?_⟩; exact bel

theorem refStep_any (n i m c p k0 i0 k1 i1 : Int) (hh : Act.heard n k0 i0 k1 i1 = true) (w : World) :
    Calls Try.prog 10 #[.int .i64 n, .agg #[.int .i64 i, .int .i64 m, .int .i64 c, .int .i64 p], .agg #[.int .i64 k0, .int .i64 i0, .int .i64 k1, .int .i64 i1]] w fun e w' => e = .returned (.tuple #[Act.val (Act.next n i m c p k0 i0 k1 i1), .int .i64 (Act.err n i m c p)]) ∧ Below w.heap.size w w' := by
  by_cases h : Node.right n i m c p = true
  · have hr := Say.right_of h
    by_cases hm : m = 0
    · subst hm
      have hg : Act.good n i 0 c p = false := by unfold Act.good; simp
      rw [show Act.next n i 0 c p k0 i0 k1 i1 = Act.none by unfold Act.next; rw [hg]; rfl, show Act.err n i 0 c p = 1 by unfold Act.err; rw [hg]; rfl]
      exact refStep_0 n i c p k0 i0 k1 i1 h w
    · have hg : Act.good n i m c p = true := by unfold Act.good; simp [h, hm]
      rw [show Act.next n i m c p k0 i0 k1 i1 = Act.step n i m c p k0 i0 k1 i1 by unfold Act.next; rw [if_pos hg], show Act.err n i m c p = 0 by unfold Act.err; rw [if_pos hg]]
      have h123 : m = 1 ∨ m = 2 ∨ m = 3 := by omega
      rcases h123 with rfl | rfl | rfl
      · exact refStep_1 n i c p k0 i0 k1 i1 h hh w
      · exact refStep_2 n i c p k0 i0 k1 i1 h hh w
      · exact refStep_3 n i c p k0 i0 k1 i1 h w
  · have h := Bool.eq_false_iff.2 h
    have hg : Act.good n i m c p = false := by unfold Act.good; simp [h]
    rw [show Act.next n i m c p k0 i0 k1 i1 = Act.none by unfold Act.next; rw [hg]; rfl, show Act.err n i m c p = 1 by unfold Act.err; rw [hg]; rfl]
    exact refStep_no n i m c p k0 i0 k1 i1 h w

end Go.Proofs.Ytjkdmnodamcjnaa
