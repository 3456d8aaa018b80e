
import Derived.Test.YtjkdmnodamcjnaaRows
import Derived.Test.YtjkdmnodamcjnaaActC
namespace Go.Proofs.Ytjkdmnodamcjnaa
set_option linter.unusedVariables false
set_option linter.unusedSimpArgs false
open Go.ChangeShapes Go.WideShapes Go.RowKit

theorem actStep_no (n i m c p k0 i0 k1 i1 : Int) (h : Node.right n i m c p = false) (w : World) :
    Calls Try.prog 9 #[.int .i64 n, .agg #[.int .i64 i, .int .i64 m, .int .i64 c, .int .i64 p], .agg #[.int .i64 k0, .int .i64 i0, .int .i64 k1, .int .i64 i1]] w fun e w' => e = .returned (.tuple #[.agg #[.int .i64 0, .int .i64 0, .int .i64 0, .int .i64 0], .int .i64 1]) ∧ Below w.heap.size w w' := by
  have CS := Lib.hid (fun w => sayOf_any n i m c p w)
  obtain ⟨e1, e2, e3⟩ := Say.no h
  rw [e1, e2, e3] at CS
  clear e1 e2 e3 h
  go_enter Try.func9, Try.ntmps9
  go_wp2_with fail
  refine (CS.out _).mono ?_; rintro e wa ⟨rfl, hb⟩; have hz := hb.size; (try simp only [World.size_alloc, World.heap_drewN, World.size_drew, World.size_setCell] at hz)
  have HB1 := Lib.hid (show Below w.heap.size w wa from bel)
  have z_rx : (w.heap.size) < wa.heap.size := (by omega); replace rx : wa.rangeAt (w.heap.size) 0 [.int .i64 i, .int .i64 m, .int .i64 c, .int .i64 p] := rng
  have z_rh : (w.heap.size + 1) < wa.heap.size := (by omega); replace rh : wa.rangeAt (w.heap.size + 1) 0 [.int .i64 k0, .int .i64 i0, .int .i64 k1, .int .i64 i1] := rng
  have z_rr : (w.heap.size + 1 + 1) < wa.heap.size := (by omega); replace rr : wa.rangeAt (w.heap.size + 1 + 1) 0 [.int .i64 0, .int .i64 0, .int .i64 0, .int .i64 0] := rng; replace f_rr : Free wa (w.heap.size + 1 + 1) := fre
  clear hb
  replace rx_0 := range_cell rx 0 rfl; replace rx_1 := range_cell rx 1 rfl; replace rx_2 := range_cell rx 2 rfl; replace rx_3 := range_cell rx 3 rfl
  replace rh_0 := range_cell rh 0 rfl; replace rh_1 := range_cell rh 1 rfl; replace rh_2 := range_cell rh 2 rfl; replace rh_3 := range_cell rh 3 rfl
  replace rr_0 := range_cell rr 0 rfl; replace rr_1 := range_cell rr 1 rfl; replace rr_2 := range_cell rr 2 rfl; replace rr_3 := range_cell rr 3 rfl
  replace rr_f0 := f_rr 0; replace rr_f1 := f_rr 1; replace rr_f2 := f_rr 2; replace rr_f3 := f_rr 3
  have := HB1.out
  go_wp2
  refine bodyPost_ret (ret_cell_tmp Try.results9 (w.heap.size + 1 + 1) [.int .i64 0, .int .i64 0, .int .i64 0, .int .i64 0] _ rfl rng Try.underlying23 rfl (by kernel_rfl)) rfl ⟨rfl, ?_⟩; exact bel

theorem actStep_0 (n i c p k0 i0 k1 i1 : Int) (h : Node.right n i 0 c p = true) (w : World) :
    Calls Try.prog 9 #[.int .i64 n, .agg #[.int .i64 i, .int .i64 0, .int .i64 c, .int .i64 p], .agg #[.int .i64 k0, .int .i64 i0, .int .i64 k1, .int .i64 i1]] w fun e w' => e = .returned (.tuple #[.agg #[.int .i64 0, .int .i64 0, .int .i64 0, .int .i64 0], .int .i64 1]) ∧ Below w.heap.size w w' := by
  have CS := Lib.hid (fun w => sayOf_any n i 0 c p w)
  have e3 : Say.err n i 0 c p = 0 := by unfold Say.err; rw [if_pos h]
  rw [e3] at CS
  generalize Say.kind n i 0 c p = sk at *
  generalize Say.id_ n i 0 c p = si at *
  clear e3 h
  go_enter Try.func9, Try.ntmps9
  go_wp2_with fail
  refine (CS.out _).mono ?_; rintro e wa ⟨rfl, hb⟩; have hz := hb.size; (try simp only [World.size_alloc, World.heap_drewN, World.size_drew, World.size_setCell] at hz)
  have HB1 := Lib.hid (show Below w.heap.size w wa from bel)
  have z_rx : (w.heap.size) < wa.heap.size := (by omega); replace rx : wa.rangeAt (w.heap.size) 0 [.int .i64 i, .int .i64 0, .int .i64 c, .int .i64 p] := rng
  have z_rh : (w.heap.size + 1) < wa.heap.size := (by omega); replace rh : wa.rangeAt (w.heap.size + 1) 0 [.int .i64 k0, .int .i64 i0, .int .i64 k1, .int .i64 i1] := rng
  have z_rr : (w.heap.size + 1 + 1) < wa.heap.size := (by omega); replace rr : wa.rangeAt (w.heap.size + 1 + 1) 0 [.int .i64 0, .int .i64 0, .int .i64 0, .int .i64 0] := rng; replace f_rr : Free wa (w.heap.size + 1 + 1) := fre
  clear hb
  replace rx_0 := range_cell rx 0 rfl; replace rx_1 := range_cell rx 1 rfl; replace rx_2 := range_cell rx 2 rfl; replace rx_3 := range_cell rx 3 rfl
  replace rh_0 := range_cell rh 0 rfl; replace rh_1 := range_cell rh 1 rfl; replace rh_2 := range_cell rh 2 rfl; replace rh_3 := range_cell rh 3 rfl
  replace rr_0 := range_cell rr 0 rfl; replace rr_1 := range_cell rr 1 rfl; replace rr_2 := range_cell rr 2 rfl; replace rr_3 := range_cell rr 3 rfl
  replace rr_f0 := f_rr 0; replace rr_f1 := f_rr 1; replace rr_f2 := f_rr 2; replace rr_f3 := f_rr 3
  go_wp2_with fail
  go_region_with (first | (go_at_call 15; refine (modes_any _).mono ?_; rintro e wb ⟨rfl, hown, hb⟩; have hz := hb.size; (try simp at hz); (try simp at hown); obtain ⟨fv, hrun⟩ := modes_0 hown; clear hown; have HB2 := Lib.hid (show Below w.heap.size w wb from by have := HB1.out; exact bel); have z_rx : (w.heap.size) < wb.heap.size := (by omega); replace rx : wb.rangeAt (w.heap.size) 0 [.int .i64 i, .int .i64 0, .int .i64 c, .int .i64 p] := rng; have z_rh : (w.heap.size + 1) < wb.heap.size := (by omega); replace rh : wb.rangeAt (w.heap.size + 1) 0 [.int .i64 k0, .int .i64 i0, .int .i64 k1, .int .i64 i1] := rng; have z_rr : (w.heap.size + 1 + 1) < wb.heap.size := (by omega); replace rr : wb.rangeAt (w.heap.size + 1 + 1) 0 [.int .i64 0, .int .i64 0, .int .i64 0, .int .i64 0] := rng; replace f_rr : Free wb (w.heap.size + 1 + 1) := fre; have z_rf : (wa.heap.size) < wb.heap.size := (by omega); replace rf : wb.rangeAt (wa.heap.size) 0 [.int .i64 sk, .int .i64 si] := rng; clear hb; replace rx_0 := range_cell rx 0 rfl; replace rx_1 := range_cell rx 1 rfl; replace rx_2 := range_cell rx 2 rfl; replace rx_3 := range_cell rx 3 rfl; replace rh_0 := range_cell rh 0 rfl; replace rh_1 := range_cell rh 1 rfl; replace rh_2 := range_cell rh 2 rfl; replace rh_3 := range_cell rh 3 rfl; replace rr_0 := range_cell rr 0 rfl; replace rr_1 := range_cell rr 1 rfl; replace rr_2 := range_cell rr 2 rfl; replace rr_3 := range_cell rr 3 rfl; replace rr_f0 := f_rr 0; replace rr_f1 := f_rr 1; replace rr_f2 := f_rr 2; replace rr_f3 := f_rr 3; replace rf_0 := range_cell rf 0 rfl; replace rf_1 := range_cell rf 1 rfl))
  all_goals
    have := HB2.out
    go_wp2
    refine bodyPost_ret (ret_cell_tmp Try.results9 (w.heap.size + 1 + 1) [.int .i64 0, .int .i64 0, .int .i64 0, .int .i64 0] _ rfl rng Try.underlying23 rfl (by kernel_rfl)) rfl ⟨rfl, ?_⟩; exact bel

set_option maxHeartbeats 1000000 in
theorem actStep_1 (n i c p k0 i0 k1 i1 : Int) (h : Node.right n i 1 c p = true) (hh : Act.heard n k0 i0 k1 i1 = true) (w : World) :
    Calls Try.prog 9 #[.int .i64 n, .agg #[.int .i64 i, .int .i64 1, .int .i64 c, .int .i64 p], .agg #[.int .i64 k0, .int .i64 i0, .int .i64 k1, .int .i64 i1]] w fun e w' => e = .returned (.tuple #[Act.val (Act.step n i 1 c p k0 i0 k1 i1), .int .i64 0]) ∧ Below w.heap.size w w' := by
  have hr := Say.right_of h
  have CS := Lib.hid (fun w => sayOf_any n i 1 c p w)
  have e3 : Say.err n i 1 c p = 0 := by unfold Say.err; rw [if_pos h]
  rw [e3] at CS
  have CG := Lib.hid (fun w => goListen_any i c p n k0 i0 k1 i1 (Say.kind n i 1 c p == 1) (by omega) (by omega) hh w)
  rw [show Act.listen n i c p (Hear.isInfo k0 || Hear.isInfo k1) (Hear.firstI (Hear.isInfo k0) (Hear.isInfo k1) i0 i1) (Hear.isOther i k0 i0 || Hear.isOther i k1 i1) (Say.kind n i 1 c p == 1) = Act.step n i 1 c p k0 i0 k1 i1 from rfl] at CG
  generalize Act.step n i 1 c p k0 i0 k1 i1 = y at *
  obtain ⟨yi, ym, yc, yp⟩ := y
  rw [show Act.val ⟨yi, ym, yc, yp⟩ = .agg #[.int .i64 yi, .int .i64 ym, .int .i64 yc, .int .i64 yp] from rfl] at CG ⊢
  generalize Say.kind n i 1 c p = sk at *
  generalize Say.id_ n i 1 c p = si at *
  clear e3 h hh hr
  have he : ∀ (args : Array Value) (w : World), (callFunc 26 args).run Try.prog w = .ok (.enter 26 args) w := fun _ _ => by kernel_rfl
  go_enter Try.func9, Try.ntmps9
  go_wp2_with fail
  refine (CS.out _).mono ?_; rintro e wa ⟨rfl, hb⟩; have hz := hb.size; (try simp only [World.size_alloc, World.heap_drewN, World.size_drew, World.size_setCell] at hz)
  have HB1 := Lib.hid (show Below w.heap.size w wa from bel)
  have z_rx : (w.heap.size) < wa.heap.size := (by omega); replace rx : wa.rangeAt (w.heap.size) 0 [.int .i64 i, .int .i64 1, .int .i64 c, .int .i64 p] := rng
  have z_rh : (w.heap.size + 1) < wa.heap.size := (by omega); replace rh : wa.rangeAt (w.heap.size + 1) 0 [.int .i64 k0, .int .i64 i0, .int .i64 k1, .int .i64 i1] := rng
  have z_rr : (w.heap.size + 1 + 1) < wa.heap.size := (by omega); replace rr : wa.rangeAt (w.heap.size + 1 + 1) 0 [.int .i64 0, .int .i64 0, .int .i64 0, .int .i64 0] := rng; replace f_rr : Free wa (w.heap.size + 1 + 1) := fre
  clear hb
  replace rx_0 := range_cell rx 0 rfl; replace rx_1 := range_cell rx 1 rfl; replace rx_2 := range_cell rx 2 rfl; replace rx_3 := range_cell rx 3 rfl
  replace rh_0 := range_cell rh 0 rfl; replace rh_1 := range_cell rh 1 rfl; replace rh_2 := range_cell rh 2 rfl; replace rh_3 := range_cell rh 3 rfl
  replace rr_0 := range_cell rr 0 rfl; replace rr_1 := range_cell rr 1 rfl; replace rr_2 := range_cell rr 2 rfl; replace rr_3 := range_cell rr 3 rfl
  replace rr_f0 := f_rr 0; replace rr_f1 := f_rr 1; replace rr_f2 := f_rr 2; replace rr_f3 := f_rr 3
  go_wp2_with fail
  go_region_with (first | (go_at_call 15; refine (modes_any _).mono ?_; rintro e wb ⟨rfl, hown, hb⟩; have hz := hb.size; (try simp at hz); (try simp at hown); have hrun := modes_1 hown; clear hown; have HB2 := Lib.hid (show Below w.heap.size w wb from by have := HB1.out; exact bel); have z_rx : (w.heap.size) < wb.heap.size := (by omega); replace rx : wb.rangeAt (w.heap.size) 0 [.int .i64 i, .int .i64 1, .int .i64 c, .int .i64 p] := rng; have z_rh : (w.heap.size + 1) < wb.heap.size := (by omega); replace rh : wb.rangeAt (w.heap.size + 1) 0 [.int .i64 k0, .int .i64 i0, .int .i64 k1, .int .i64 i1] := rng; have z_rr : (w.heap.size + 1 + 1) < wb.heap.size := (by omega); replace rr : wb.rangeAt (w.heap.size + 1 + 1) 0 [.int .i64 0, .int .i64 0, .int .i64 0, .int .i64 0] := rng; replace f_rr : Free wb (w.heap.size + 1 + 1) := fre; have z_rf : (wa.heap.size) < wb.heap.size := (by omega); replace rf : wb.rangeAt (wa.heap.size) 0 [.int .i64 sk, .int .i64 si] := rng; clear hb; replace rx_0 := range_cell rx 0 rfl; replace rx_1 := range_cell rx 1 rfl; replace rx_2 := range_cell rx 2 rfl; replace rx_3 := range_cell rx 3 rfl; replace rh_0 := range_cell rh 0 rfl; replace rh_1 := range_cell rh 1 rfl; replace rh_2 := range_cell rh 2 rfl; replace rh_3 := range_cell rh 3 rfl; replace rr_0 := range_cell rr 0 rfl; replace rr_1 := range_cell rr 1 rfl; replace rr_2 := range_cell rr 2 rfl; replace rr_3 := range_cell rr 3 rfl; replace rr_f0 := f_rr 0; replace rr_f1 := f_rr 1; replace rr_f2 := f_rr 2; replace rr_f3 := f_rr 3; replace rf_0 := range_cell rf 0 rfl; replace rf_1 := range_cell rf 1 rfl))
  all_goals
    go_wp2_with fail
    refine (CG.out _).mono ?_; rintro e wc ⟨rfl, hb⟩; have hz := hb.size; (try simp only [World.size_alloc, World.heap_drewN, World.size_drew, World.size_setCell] at hz)
    have HB3 := Lib.hid (show Below w.heap.size w wc from by have := HB2.out; exact bel)
    have z_rr : (w.heap.size + 1 + 1) < wc.heap.size := (by omega); replace rr : wc.rangeAt (w.heap.size + 1 + 1) 0 [.int .i64 0, .int .i64 0, .int .i64 0, .int .i64 0] := rng; replace f_rr : Free wc (w.heap.size + 1 + 1) := fre
    clear hb
    replace rr_0 := range_cell rr 0 rfl; replace rr_1 := range_cell rr 1 rfl; replace rr_2 := range_cell rr 2 rfl; replace rr_3 := range_cell rr 3 rfl
    replace rr_f0 := f_rr 0; replace rr_f1 := f_rr 1; replace rr_f2 := f_rr 2; replace rr_f3 := f_rr 3
    have := HB3.out
    go_wp2
    refine bodyPost_ret (ret_cell_tmp Try.results9 (w.heap.size + 1 + 1) [.int .i64 yi, .int .i64 ym, .int .i64 yc, .int .i64 yp] _ rfl rng Try.underlying23 rfl (by kernel_rfl)) rfl ⟨rfl, ?_⟩; exact bel

set_option maxHeartbeats 1000000 in
theorem actStep_2 (n i c p k0 i0 k1 i1 : Int) (h : Node.right n i 2 c p = true) (hh : Act.heard n k0 i0 k1 i1 = true) (w : World) :
    Calls Try.prog 9 #[.int .i64 n, .agg #[.int .i64 i, .int .i64 2, .int .i64 c, .int .i64 p], .agg #[.int .i64 k0, .int .i64 i0, .int .i64 k1, .int .i64 i1]] w fun e w' => e = .returned (.tuple #[Act.val (Act.step n i 2 c p k0 i0 k1 i1), .int .i64 0]) ∧ Below w.heap.size w w' := by
  have hr := Say.right_of h
  have CS := Lib.hid (fun w => sayOf_any n i 2 c p w)
  have e3 : Say.err n i 2 c p = 0 := by unfold Say.err; rw [if_pos h]
  rw [e3] at CS
  have CG := Lib.hid (fun w => goCold_any i c p n k0 i0 k1 i1 (Say.kind n i 2 c p == 1) (by omega) (by omega) hh w)
  rw [show Act.cold n i c p (Hear.isInfo k0 || Hear.isInfo k1) (Hear.firstI (Hear.isInfo k0) (Hear.isInfo k1) i0 i1) (Hear.isOther i k0 i0 || Hear.isOther i k1 i1) (Hear.firstI (Hear.isOther i k0 i0) (Hear.isOther i k1 i1) i0 i1) (Say.kind n i 2 c p == 1) = Act.step n i 2 c p k0 i0 k1 i1 from rfl] at CG
  generalize Act.step n i 2 c p k0 i0 k1 i1 = y at *
  obtain ⟨yi, ym, yc, yp⟩ := y
  rw [show Act.val ⟨yi, ym, yc, yp⟩ = .agg #[.int .i64 yi, .int .i64 ym, .int .i64 yc, .int .i64 yp] from rfl] at CG ⊢
  generalize Say.kind n i 2 c p = sk at *
  generalize Say.id_ n i 2 c p = si at *
  clear e3 h hh hr
  have he : ∀ (args : Array Value) (w : World), (callFunc 27 args).run Try.prog w = .ok (.enter 27 args) w := fun _ _ => by kernel_rfl
  go_enter Try.func9, Try.ntmps9
  go_wp2_with fail
  refine (CS.out _).mono ?_; rintro e wa ⟨rfl, hb⟩; have hz := hb.size; (try simp only [World.size_alloc, World.heap_drewN, World.size_drew, World.size_setCell] at hz)
  have HB1 := Lib.hid (show Below w.heap.size w wa from bel)
  have z_rx : (w.heap.size) < wa.heap.size := (by omega); replace rx : wa.rangeAt (w.heap.size) 0 [.int .i64 i, .int .i64 2, .int .i64 c, .int .i64 p] := rng
  have z_rh : (w.heap.size + 1) < wa.heap.size := (by omega); replace rh : wa.rangeAt (w.heap.size + 1) 0 [.int .i64 k0, .int .i64 i0, .int .i64 k1, .int .i64 i1] := rng
  have z_rr : (w.heap.size + 1 + 1) < wa.heap.size := (by omega); replace rr : wa.rangeAt (w.heap.size + 1 + 1) 0 [.int .i64 0, .int .i64 0, .int .i64 0, .int .i64 0] := rng; replace f_rr : Free wa (w.heap.size + 1 + 1) := fre
  clear hb
  replace rx_0 := range_cell rx 0 rfl; replace rx_1 := range_cell rx 1 rfl; replace rx_2 := range_cell rx 2 rfl; replace rx_3 := range_cell rx 3 rfl
  replace rh_0 := range_cell rh 0 rfl; replace rh_1 := range_cell rh 1 rfl; replace rh_2 := range_cell rh 2 rfl; replace rh_3 := range_cell rh 3 rfl
  replace rr_0 := range_cell rr 0 rfl; replace rr_1 := range_cell rr 1 rfl; replace rr_2 := range_cell rr 2 rfl; replace rr_3 := range_cell rr 3 rfl
  replace rr_f0 := f_rr 0; replace rr_f1 := f_rr 1; replace rr_f2 := f_rr 2; replace rr_f3 := f_rr 3
  go_wp2_with fail
  go_region_with (first | (go_at_call 15; refine (modes_any _).mono ?_; rintro e wb ⟨rfl, hown, hb⟩; have hz := hb.size; (try simp at hz); (try simp at hown); have hrun := modes_2 hown; clear hown; have HB2 := Lib.hid (show Below w.heap.size w wb from by have := HB1.out; exact bel); have z_rx : (w.heap.size) < wb.heap.size := (by omega); replace rx : wb.rangeAt (w.heap.size) 0 [.int .i64 i, .int .i64 2, .int .i64 c, .int .i64 p] := rng; have z_rh : (w.heap.size + 1) < wb.heap.size := (by omega); replace rh : wb.rangeAt (w.heap.size + 1) 0 [.int .i64 k0, .int .i64 i0, .int .i64 k1, .int .i64 i1] := rng; have z_rr : (w.heap.size + 1 + 1) < wb.heap.size := (by omega); replace rr : wb.rangeAt (w.heap.size + 1 + 1) 0 [.int .i64 0, .int .i64 0, .int .i64 0, .int .i64 0] := rng; replace f_rr : Free wb (w.heap.size + 1 + 1) := fre; have z_rf : (wa.heap.size) < wb.heap.size := (by omega); replace rf : wb.rangeAt (wa.heap.size) 0 [.int .i64 sk, .int .i64 si] := rng; clear hb; replace rx_0 := range_cell rx 0 rfl; replace rx_1 := range_cell rx 1 rfl; replace rx_2 := range_cell rx 2 rfl; replace rx_3 := range_cell rx 3 rfl; replace rh_0 := range_cell rh 0 rfl; replace rh_1 := range_cell rh 1 rfl; replace rh_2 := range_cell rh 2 rfl; replace rh_3 := range_cell rh 3 rfl; replace rr_0 := range_cell rr 0 rfl; replace rr_1 := range_cell rr 1 rfl; replace rr_2 := range_cell rr 2 rfl; replace rr_3 := range_cell rr 3 rfl; replace rr_f0 := f_rr 0; replace rr_f1 := f_rr 1; replace rr_f2 := f_rr 2; replace rr_f3 := f_rr 3; replace rf_0 := range_cell rf 0 rfl; replace rf_1 := range_cell rf 1 rfl))
  all_goals
    go_wp2_with fail
    refine (CG.out _).mono ?_; rintro e wc ⟨rfl, hb⟩; have hz := hb.size; (try simp only [World.size_alloc, World.heap_drewN, World.size_drew, World.size_setCell] at hz)
    have HB3 := Lib.hid (show Below w.heap.size w wc from by have := HB2.out; exact bel)
    have z_rr : (w.heap.size + 1 + 1) < wc.heap.size := (by omega); replace rr : wc.rangeAt (w.heap.size + 1 + 1) 0 [.int .i64 0, .int .i64 0, .int .i64 0, .int .i64 0] := rng; replace f_rr : Free wc (w.heap.size + 1 + 1) := fre
    clear hb
    replace rr_0 := range_cell rr 0 rfl; replace rr_1 := range_cell rr 1 rfl; replace rr_2 := range_cell rr 2 rfl; replace rr_3 := range_cell rr 3 rfl
    replace rr_f0 := f_rr 0; replace rr_f1 := f_rr 1; replace rr_f2 := f_rr 2; replace rr_f3 := f_rr 3
    have := HB3.out
    go_wp2
    refine bodyPost_ret (ret_cell_tmp Try.results9 (w.heap.size + 1 + 1) [.int .i64 yi, .int .i64 ym, .int .i64 yc, .int .i64 yp] _ rfl rng Try.underlying23 rfl (by kernel_rfl)) rfl ⟨rfl, ?_⟩; exact bel

set_option maxHeartbeats 1000000 in
theorem actStep_3 (n i c p k0 i0 k1 i1 : Int) (h : Node.right n i 3 c p = true) (hh : Act.heard n k0 i0 k1 i1 = true) (w : World) :
    Calls Try.prog 9 #[.int .i64 n, .agg #[.int .i64 i, .int .i64 3, .int .i64 c, .int .i64 p], .agg #[.int .i64 k0, .int .i64 i0, .int .i64 k1, .int .i64 i1]] w fun e w' => e = .returned (.tuple #[Act.val (Act.step n i 3 c p k0 i0 k1 i1), .int .i64 0]) ∧ Below w.heap.size w w' := by
  have hr := Say.right_of h
  have CS := Lib.hid (fun w => sayOf_any n i 3 c p w)
  have e3 : Say.err n i 3 c p = 0 := by unfold Say.err; rw [if_pos h]
  rw [e3] at CS
  have CG := Lib.hid (fun w => goActive_any i c p n k0 i0 k1 i1 (Say.kind n i 3 c p == 1) (by omega) (by omega) (by omega) w)
  rw [show Act.active n i c p (Hear.isWrong p k0 i0 || Hear.isWrong p k1 i1) (Hear.isOther i k0 i0 || Hear.isOther i k1 i1) (Hear.isMatch p k0 i0 || Hear.isMatch p k1 i1) = Act.step n i 3 c p k0 i0 k1 i1 from rfl] at CG
  generalize Act.step n i 3 c p k0 i0 k1 i1 = y at *
  obtain ⟨yi, ym, yc, yp⟩ := y
  rw [show Act.val ⟨yi, ym, yc, yp⟩ = .agg #[.int .i64 yi, .int .i64 ym, .int .i64 yc, .int .i64 yp] from rfl] at CG ⊢
  generalize Say.kind n i 3 c p = sk at *
  generalize Say.id_ n i 3 c p = si at *
  clear e3 h hh hr
  have he : ∀ (args : Array Value) (w : World), (callFunc 28 args).run Try.prog w = .ok (.enter 28 args) w := fun _ _ => by kernel_rfl
  go_enter Try.func9, Try.ntmps9
  go_wp2_with fail
  refine (CS.out _).mono ?_; rintro e wa ⟨rfl, hb⟩; have hz := hb.size; (try simp only [World.size_alloc, World.heap_drewN, World.size_drew, World.size_setCell] at hz)
  have HB1 := Lib.hid (show Below w.heap.size w wa from bel)
  have z_rx : (w.heap.size) < wa.heap.size := (by omega); replace rx : wa.rangeAt (w.heap.size) 0 [.int .i64 i, .int .i64 3, .int .i64 c, .int .i64 p] := rng
  have z_rh : (w.heap.size + 1) < wa.heap.size := (by omega); replace rh : wa.rangeAt (w.heap.size + 1) 0 [.int .i64 k0, .int .i64 i0, .int .i64 k1, .int .i64 i1] := rng
  have z_rr : (w.heap.size + 1 + 1) < wa.heap.size := (by omega); replace rr : wa.rangeAt (w.heap.size + 1 + 1) 0 [.int .i64 0, .int .i64 0, .int .i64 0, .int .i64 0] := rng; replace f_rr : Free wa (w.heap.size + 1 + 1) := fre
  clear hb
  replace rx_0 := range_cell rx 0 rfl; replace rx_1 := range_cell rx 1 rfl; replace rx_2 := range_cell rx 2 rfl; replace rx_3 := range_cell rx 3 rfl
  replace rh_0 := range_cell rh 0 rfl; replace rh_1 := range_cell rh 1 rfl; replace rh_2 := range_cell rh 2 rfl; replace rh_3 := range_cell rh 3 rfl
  replace rr_0 := range_cell rr 0 rfl; replace rr_1 := range_cell rr 1 rfl; replace rr_2 := range_cell rr 2 rfl; replace rr_3 := range_cell rr 3 rfl
  replace rr_f0 := f_rr 0; replace rr_f1 := f_rr 1; replace rr_f2 := f_rr 2; replace rr_f3 := f_rr 3
  go_wp2_with fail
  go_region_with (first | (go_at_call 15; refine (modes_any _).mono ?_; rintro e wb ⟨rfl, hown, hb⟩; have hz := hb.size; (try simp at hz); (try simp at hown); have hrun := modes_3 hown; clear hown; have HB2 := Lib.hid (show Below w.heap.size w wb from by have := HB1.out; exact bel); have z_rx : (w.heap.size) < wb.heap.size := (by omega); replace rx : wb.rangeAt (w.heap.size) 0 [.int .i64 i, .int .i64 3, .int .i64 c, .int .i64 p] := rng; have z_rh : (w.heap.size + 1) < wb.heap.size := (by omega); replace rh : wb.rangeAt (w.heap.size + 1) 0 [.int .i64 k0, .int .i64 i0, .int .i64 k1, .int .i64 i1] := rng; have z_rr : (w.heap.size + 1 + 1) < wb.heap.size := (by omega); replace rr : wb.rangeAt (w.heap.size + 1 + 1) 0 [.int .i64 0, .int .i64 0, .int .i64 0, .int .i64 0] := rng; replace f_rr : Free wb (w.heap.size + 1 + 1) := fre; have z_rf : (wa.heap.size) < wb.heap.size := (by omega); replace rf : wb.rangeAt (wa.heap.size) 0 [.int .i64 sk, .int .i64 si] := rng; clear hb; replace rx_0 := range_cell rx 0 rfl; replace rx_1 := range_cell rx 1 rfl; replace rx_2 := range_cell rx 2 rfl; replace rx_3 := range_cell rx 3 rfl; replace rh_0 := range_cell rh 0 rfl; replace rh_1 := range_cell rh 1 rfl; replace rh_2 := range_cell rh 2 rfl; replace rh_3 := range_cell rh 3 rfl; replace rr_0 := range_cell rr 0 rfl; replace rr_1 := range_cell rr 1 rfl; replace rr_2 := range_cell rr 2 rfl; replace rr_3 := range_cell rr 3 rfl; replace rr_f0 := f_rr 0; replace rr_f1 := f_rr 1; replace rr_f2 := f_rr 2; replace rr_f3 := f_rr 3; replace rf_0 := range_cell rf 0 rfl; replace rf_1 := range_cell rf 1 rfl))
  all_goals
    go_wp2_with fail
    refine (CG.out _).mono ?_; rintro e wc ⟨rfl, hb⟩; have hz := hb.size; (try simp only [World.size_alloc, World.heap_drewN, World.size_drew, World.size_setCell] at hz)
    have HB3 := Lib.hid (show Below w.heap.size w wc from by have := HB2.out; exact bel)
    have z_rr : (w.heap.size + 1 + 1) < wc.heap.size := (by omega); replace rr : wc.rangeAt (w.heap.size + 1 + 1) 0 [.int .i64 0, .int .i64 0, .int .i64 0, .int .i64 0] := rng; replace f_rr : Free wc (w.heap.size + 1 + 1) := fre
    clear hb
    replace rr_0 := range_cell rr 0 rfl; replace rr_1 := range_cell rr 1 rfl; replace rr_2 := range_cell rr 2 rfl; replace rr_3 := range_cell rr 3 rfl
    replace rr_f0 := f_rr 0; replace rr_f1 := f_rr 1; replace rr_f2 := f_rr 2; replace rr_f3 := f_rr 3
    have := HB3.out
    go_wp2
    refine bodyPost_ret (ret_cell_tmp Try.results9 (w.heap.size + 1 + 1) [.int .i64 yi, .int .i64 ym, .int .i64 yc, .int .i64 yp] _ rfl rng Try.underlying23 rfl (by kernel_rfl)) rfl ⟨rfl, ?_⟩; exact bel

theorem actStep_any (n i m c p k0 i0 k1 i1 : Int) (hh : Act.heard n k0 i0 k1 i1 = true) (w : World) :
    Calls Try.prog 9 #[.int .i64 n, .agg #[.int .i64 i, .int .i64 m, .int .i64 c, .int .i64 p], .agg #[.int .i64 k0, .int .i64 i0, .int .i64 k1, .int .i64 i1]] w fun e w' => e = .returned (.tuple #[Act.val (Act.next n i m c p k0 i0 k1 i1), .int .i64 (Act.err n i m c p)]) ∧ Below w.heap.size w w' := by
  by_cases h : Node.right n i m c p = true
  · have hr := Say.right_of h
    by_cases hm : m = 0
    · subst hm
      have hg : Act.good n i 0 c p = false := by unfold Act.good; simp
      rw [show Act.next n i 0 c p k0 i0 k1 i1 = Act.none by unfold Act.next; rw [hg]; rfl, show Act.err n i 0 c p = 1 by unfold Act.err; rw [hg]; rfl]
      exact actStep_0 n i c p k0 i0 k1 i1 h w
    · have hg : Act.good n i m c p = true := by unfold Act.good; simp [h, hm]
      rw [show Act.next n i m c p k0 i0 k1 i1 = Act.step n i m c p k0 i0 k1 i1 by unfold Act.next; rw [if_pos hg], show Act.err n i m c p = 0 by unfold Act.err; rw [if_pos hg]]
      have h123 : m = 1 ∨ m = 2 ∨ m = 3 := by omega
      rcases h123 with rfl | rfl | rfl
      · exact actStep_1 n i c p k0 i0 k1 i1 h hh w
      · exact actStep_2 n i c p k0 i0 k1 i1 h hh w
      · exact actStep_3 n i c p k0 i0 k1 i1 h hh w
  · have h := Bool.eq_false_iff.2 h
    have hg : Act.good n i m c p = false := by unfold Act.good; simp [h]
    rw [show Act.next n i m c p k0 i0 k1 i1 = Act.none by unfold Act.next; rw [hg]; rfl, show Act.err n i m c p = 1 by unfold Act.err; rw [hg]; rfl]
    exact actStep_no n i m c p k0 i0 k1 i1 h w
end Go.Proofs.Ytjkdmnodamcjnaa
